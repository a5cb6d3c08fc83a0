import PyProof.Rows.All
import Wide.All
import OpenK.AllK
import Wide.FinOn
import Lean
import PyProof.EqAt
import PyProof.EqKinds
import PyProof.TupleCall
import PyProof.MeetsSeq
import PyProof.NeKinds
import PyProof.TupleOfSeq
import PyProof.ListRange
import PyProof.TupleOfGen
import PyProof.ZipIter
import KE.KRevIter
import PyProof.StrWalks
import PyProof.StrBlock2
import PyProof.MeetsStr
import PyProof.StrCalls2
import PyProof.StrLawsIn
import KE.KIntText
import PyProof.StrLawsTight
import PyProof.StrLawsChain
import PyProof.StrLawsAffix
import PyProof.Rows.StrItems
import PyProof.Rows.ReprOcc
import KE.KDictSum
import PyProof.Rows.SeqMore
import KE.KDictList
import KE.KStateDown
import PyProof.StrBlockI
import PyProof.FactsAll.NoneType_1
import PyProof.FString2
import PyProof.TupleKey
import OpenK.KTop
import PyProof.Rows.StrNews2
import PyProof.Rows.StrFirst
import PyProof.RulesTry
import PySem.Challenge.RW_dipkin_k14_whole_all_small_trees
set_option Elab.async false
set_option linter.all false
set_option maxRecDepth 100000
set_option maxHeartbeats 4000000
set_option genSizeOfSpec false
set_option bootstrap.genMatcherCode false
set_option compiler.extract_closed false
local macro_rules | `(tactic| omega) => `(tactic| first | lia | omega (config := {}))
section
open PySem PySem.Spec PyProof.Rows
noncomputable abbrev Ya:=@wpAny_bind
noncomputable abbrev Yb:=@if_neg
noncomputable abbrev Yc:=@if_pos
noncomputable abbrev Yd:=@Nat.le_refl
noncomputable abbrev Ye:=@wpAny_pure
noncomputable abbrev Yf:=@List.getElem?_eq_getElem
noncomputable abbrev Yg:=@List.getD_eq_getElem?_getD
noncomputable abbrev Yh:=@List.length_map
noncomputable abbrev Yi:=@Heap.lt_size
noncomputable abbrev Yj:=@List.mem_cons
noncomputable abbrev Yk:=@Array.length_toList
noncomputable abbrev Yl:=@Nat.ne_of_lt
noncomputable abbrev Ym:=@Heap.get?_push_of_some
noncomputable abbrev Yn:=@Nat.le_trans
noncomputable abbrev Yo:=@List.mem_append_right
noncomputable abbrev Yp:=@Nat.zero_le
noncomputable abbrev Yq:=@PySem.boot_len
noncomputable abbrev Yr:=@List.mem_range
noncomputable abbrev Ys:=@List.mem_append
noncomputable abbrev Yt:=@Nat.lt_of_lt_of_le
noncomputable abbrev Yu:=@List.length_append
noncomputable abbrev Yv:=@List.size_toArray
noncomputable abbrev Yw:=@List.getElem?_eq_some_iff
noncomputable abbrev Yx:=@Bool.false_ne_true
noncomputable abbrev Yy:=@Heap.get?_push_size
noncomputable abbrev Yz:=@List.length_cons
noncomputable abbrev YA:=@Option.some.inj
noncomputable abbrev YB:=@List.getElem?_map
noncomputable abbrev YC:=@List.map_cons
noncomputable abbrev YD:=@List.mem_map
noncomputable abbrev YE:=@Nat.lt_of_le_of_lt
noncomputable abbrev YF:=@Array.getD_eq_getD_getElem?
noncomputable abbrev YG:=@Nat.lt_irrefl
noncomputable abbrev YH:=@wpAny_holding
noncomputable abbrev YI:=@wpAny_ite_split
noncomputable abbrev YJ:=@List.mem_filter
noncomputable abbrev YK:=@List.mem_cons_of_mem
noncomputable abbrev YL:=@Array.getElem?_toList
noncomputable abbrev YM:=@List.mem_cons_self
noncomputable abbrev YN:=@List.mem_append_left
noncomputable abbrev YO:=@List.take_add_one
noncomputable abbrev YQ:=@decide_eq_false
noncomputable abbrev YR:=@List.range_succ
noncomputable abbrev YS:=@Nat.lt_succ_of_lt
noncomputable abbrev YT:=@wpAny_mono
noncomputable abbrev YU:=@List.map_map
noncomputable abbrev YV:=@List.getElem_mem
noncomputable abbrev YW:=@List.mem_singleton
noncomputable abbrev YX:=@Nat.le_of_lt
noncomputable abbrev YY:=@List.append_assoc
noncomputable abbrev YZ:=@List.pairwise_cons
noncomputable abbrev Y0:=@List.length_range
noncomputable abbrev Y1:=@List.getElem?_append_right
noncomputable abbrev Y2:=@decide_eq_true
noncomputable abbrev Y3:=@List.getElem_of_mem
noncomputable abbrev Y4:=@List.length_take
noncomputable abbrev Y5:=@List.getElem?_append_left
noncomputable abbrev Y6:=@Nat.le_succ
noncomputable abbrev Y7:=@List.take_append_drop
noncomputable abbrev Y8:=@List.map_append
noncomputable abbrev Y9:=@Int.toNat_natCast
noncomputable abbrev Ja:=@Int.eq_ofNat_of_zero_le
noncomputable abbrev Jb:=@List.getElem_append_left
end
namespace L2
open PySem PySem.Spec PyProof.Rows
noncomputable abbrev Key:=Sum Int Str
noncomputable def keyIs:Key->Value->Bool
 |.inl k,v=>Value.isInt k v
 |.inr x,v=>Value.isStrOf x v
noncomputable def keyH (w:World):Key->Int
 |.inl k=>hashInt k
 |.inr x=>hashStr w x
theorem ZJ:∀{k:Key}{v:Value},keyIs k v=true->(∃i t,k=Sum.inl i/\v=Value.int i t)\/(∃x t,k=Sum.inr x/\v=Value.str x t)
 |.inl i,v,h=>by
  obtain⟨t,e⟩:=Value.isInt_shape (k:=i) (v:=v) h
  exact .inl ⟨i,t,rfl,e⟩
 |.inr x,v,h=>by
  obtain⟨t,e⟩:=Value.isStrOf_shape (x:=x) (v:=v) h
  exact .inr ⟨x,t,rfl,e⟩
theorem key_ll (a b:Int):decide ((Sum.inl a:Key)=Sum.inl b)=(a==b):=by
 by_cases e:a=b
 ·subst e;simp
 ·have h:¬ (Sum.inl a:Key)=Sum.inl b:=λq=>e (Sum.inl.inj q)
  rw[YQ h]
  exact(beq_eq_false_iff_ne.mpr e).symm
theorem key_rr (a b:Str):decide ((Sum.inr a:Key)=Sum.inr b)=decide (a=b):=by
 by_cases e:a=b
 ·subst e;simp
 ·have h:¬ (Sum.inr a:Key)=Sum.inr b:=λq=>e (Sum.inr.inj q)
  rw[YQ h,YQ e]
theorem key_lr (a:Int) (b:Str):decide ((Sum.inl a:Key)=Sum.inr b)=false:=YQ (λq=>nomatch q)
theorem key_rl (a:Str) (b:Int):decide ((Sum.inr a:Key)=Sum.inl b)=false:=YQ (λq=>nomatch q)
noncomputable def Zjr (prog:Program) (w:World):PySem.KeyKind prog w Key where
 is:=keyIs
 hash:=keyH w
 inj:=λv a b ha hb=>by
  rcases ZJ ha with⟨i,t,rfl,rfl⟩|⟨x,t,rfl,rfl⟩
  ·rcases ZJ hb with⟨j,u,rfl,e⟩|⟨y,u,rfl,e⟩
   ·injection e with e1 _;rw[e1]
   ·exact nomatch e
  ·rcases ZJ hb with⟨j,u,rfl,e⟩|⟨y,u,rfl,e⟩
   ·exact nomatch e
   ·injection e with e1 _;rw[e1]
 byValue:=λk v h=>by
  rcases ZJ h with⟨i,t,rfl,rfl⟩|⟨x,t,rfl,rfl⟩<;>rfl
 pyHash:=λhv h=>by
  rcases ZJ hv with⟨i,t,rfl,rfl⟩|⟨x,t,rfl,rfl⟩
  ·exact wpAny_pyHash_int h
  ·exact wpAny_pyHash_str h
 eqBool:=λhu hv h=>by
  rcases ZJ hu with⟨i,t,rfl,rfl⟩|⟨x,t,rfl,rfl⟩
  ·rcases ZJ hv with⟨j,u,rfl,rfl⟩|⟨y,u,rfl,rfl⟩
   ·rw[key_ll]at h;exact wpAny_eqBool_int h
   ·rw[key_lr]at h;exact SeqAt.EqAt.int_str i t y u _ _ _ _ h
  ·rcases ZJ hv with⟨j,u,rfl,rfl⟩|⟨y,u,rfl,rfl⟩
   ·rw[key_rl]at h;exact SeqAt.EqAt.str_int x t j u _ _ _ _ h
   ·rw[key_rr]at h;exact wpAny_eqBool_str h
 «strs»:=λk x t v h=>by
  rcases ZJ h with⟨i,u,rfl,e⟩|⟨y,u,rfl,e⟩
  ·exact nomatch e
  ·injection e with e1 _
   subst e1
   cases v<;>rfl
inductive V where
 |non|bl (b:Bool)|int (i:Int)|str (x:Str)|byt (b:Array UInt8)|flt (b:UInt64)|ref (a:Addr)|ty (n:String)
 deriving DecidableEq
noncomputable def RelV:V->Value->Prop
 |.non,u=>u=Value.none
 |.bl b,u=>u=Value.bool b
 |.int i,u=>∃t,u=Value.int i t
 |.str x,u=>∃t,u=Value.str x t
 |.byt b,u=>∃t,u=Value.bytes b t
 |.flt b,u=>∃t,u=Value.float b t
 |.ref a,u=>u=Value.ref a
 |.ty n,u=>u=Value.type n
noncomputable abbrev Vals:List V->List Value->Prop:=Paired RelV
theorem Vals.length {xs:List V}{us:List Value} (r:Vals xs us):xs.length=us.length:=Paired.length r
theorem Vals.get:∀{xs:List V}{us:List Value}{i:Nat}{x:V},Vals xs us->xs[i]?=some x->∃u,us[i]?=some u/\RelV x u
 |_,_,_,_,.nil,e=>by simp at e
 |_,_,0,_,.cons r _,e=>by simp at e;subst e;exact⟨_,rfl,r⟩
 |_,_,i+1,x,.cons _ t,e=>by
  obtain⟨u,h1,h2⟩:=Vals.get (i:=i) (x:=x) t (by simpa using e)
  exact⟨u,by simpa using h1,h2⟩
theorem Vals.set {x:V}{u:Value} (r:RelV x u):∀{xs:List V}{us:List Value} (i:Nat),Vals xs us->Vals (xs.set i x) (us.set i u)
 |_,_,_,.nil=>.nil
 |_,_,0,.cons _ t=>.cons r t
 |_,_,i+1,.cons q t=>.cons q (Vals.set r i t)
theorem Vals.append:∀{xs ys:List V}{us ws:List Value},Vals xs us->Vals ys ws->Vals (xs++ys) (us++ws)
 |_,_,_,_,.nil,s=>s
 |_,_,_,_,.cons r t,s=>.cons r (Vals.append t s)
noncomputable def RelO:Option V->Option Value->Prop
 |some v,some u=>RelV v u
 |none,none=>True
 |_,_=>False
noncomputable def KV {κ:Type}:List (κ×V)->List (κ×Value)->Prop:=Paired λ(p:κ×V) (q:κ×Value)=>p.1=q.1/\RelV p.2 q.2
noncomputable def kV:Key->V
 |.inl i=>.int i
 |.inr x=>.str x
inductive HO where
 |lst (xs:List V)
 |tup (xs:List V)
 |dK (kvs:List (Key×V))|dT (kvs:List (List Key×V))
 |set (S:Int->Bool) (n:Nat)
 |ins (C dx:Addr) (fs:List (Str×V))
 |own (x:Addr)
 |xd (fs:List (Str×V))
 |met (f x:Addr)
 |rng (lo hi:Int)
 |frz (o:Obj) (u:HO)
 |tbl (ps:Array Value)
 |ext (φ:Heap->Prop)
noncomputable abbrev Hp:=Addr->Option HO
noncomputable def upd (H:Hp) (a:Addr) (o:HO):Hp:=λb=>if b=a then some o else H b
theorem Zd {H:Hp}{a:Addr}{o:HO}:upd H a o a=some o:=by unfold upd;rw[Yc rfl]
theorem Zh {H:Hp}{a b:Addr}{o:HO} (h:b≠a):upd H a o b=H b:=by unfold upd;rw[Yb h]
theorem ZmI {H:Hp}{a:Addr}{o u:HO}:upd (upd H a o) a u=upd H a u:=by
 funext b;unfold upd;split<;>rfl
theorem Zt {H:Hp}{a b:Addr}{o:HO} (h:H a=some o) (h':H b=none):a≠b:=by
 intro e;subst e;rw[h]at h';cases h'
section
variable (P:Program) (w:World)
noncomputable def ZX (H:Hp) (h:Heap) (a:Addr):HO->Prop
 |.lst xs=>xs.length<=sizeLine/\∃(its:List Value) (n:Nat),Vals xs its/\h.get? a=some {cls:=.type "list",data:=.seq its.toArray n}
 |.tup xs=>xs.length<=sizeLine/\∃its:List Value,Vals xs its/\IsTup h a its.toArray
 |.dK kvs=>kvs.length<=sizeLine/\(a==sysModules)=false/\∃vs,KV kvs vs/\h.DictOf (Zjr P w) a vs
 |.dT kvs=>kvs.length<=sizeLine/\(a==sysModules)=false/\∃xs:List (List Key×Addr×Value),
   Paired (λ(p:List Key×V) (q:List Key×Addr×Value)=>p.1=q.1/\H q.2.1=some (.tup (p.1.map kV))/\RelV p.2 q.2.2) kvs xs /\
   ∃o es ep,h.get? a=some o/\o.ExactDict/\o.data=.dict es ep/\es.toList=xs.map (entryOfKey (tupleKind (Zjr P w)))/\(xs.map (·.1)).Nodup
 |.set S n=>h.SetOf (intKind P w) a S n
 |.ins C dx fs=>H dx=some (.own a)/\fs.length<=1000/\dx≠a/\h.get? a=some (PySem.W.instObj C dx) /\
   ∃mA,h.Ns1 dx mA/\(∀f,RelO (fs.lookup f) (mA f))/\PySem.Within mA (fs.map (·.1))
 |.own _=>∃o,h.get? a=some o
 |.xd fs=>∃mA,h.Ns1 a mA/\∀f,RelO (fs.lookup f) (mA f)
 |.rng lo hi=>∃t u v,h.get? a=some {cls:=.type "range",data:=.fields #[.int lo t,.int hi u,.int 1 v]}
 |.frz o u=>h.get? a=some o/\ZX H h a u
 |.tbl ps=>∃ts:Array Value,h.get? a=some {cls:=.none,data:=.fields ts}/\TriplesOk ts.toList/\∀pos cv,codeAmong pos ts.toList=some cv->∃c oc vs q t t',cv=.ref c/\H c=some (.frz oc (.own a))/\oc.data=.fields vs/\ps[0]?=some (.str q t)/\vs[1]?=some (.str q t')
 |.met f x=>h.get? a=some (PySem.W.methodObj (.ref f) (.ref x))
 |.ext φ=>φ h/\(∃o,h.get? a=some o)/\∀h1 h2:Heap,φ h1->(∀o,h1.get? a=some o->h2.get? a=some o)->φ h2
noncomputable def HOk (H:Hp) (h:Heap):Prop:=∀a o,H a=some o->ZX P w H h a o
end
section
variable {P:Program}{w:World}{H H':Hp}{h h':Heap}{a:Addr}{o:HO}
theorem ZX.lt (x:ZX P w H h a o):a<h.objs.size:=by
 cases o with
 |lst xs=>obtain⟨_,_,_,_,e⟩:=x;exact Yi e
 |tup xs=>obtain⟨_,_,_,p⟩:=x;exact p.lt
 |dK kvs=>obtain⟨_,_,_,_,o,_,_,e,_⟩:=x;exact Yi e
 |dT kvs=>obtain⟨_,_,_,_,o,_,_,e,_⟩:=x;exact Yi e
 |set S n=>obtain⟨o,_,_,_,e,_⟩:=x;exact Yi e
 |ins C dx fs=>obtain⟨_,_,_,e,_⟩:=x;exact Yi e
 |own y=>obtain⟨_,e⟩:=x;exact Yi e
 |xd fs=>obtain⟨_,⟨_,_,_,e,_⟩,_⟩:=x;exact Yi e
 |rng lo hi=>obtain⟨_,_,_,e⟩:=x;exact Yi e
 |frz ob u=>obtain⟨e,_⟩:=x;exact Yi e
 |tbl ps=>obtain⟨_,e,_⟩:=x;exact Yi e
 |met f y=>exact Yi (show h.get? a=some _ from x)
 |ext φ=>obtain⟨_,⟨_,e⟩,_⟩:=x;exact Yi e
theorem Paired.mapP {α β:Type}{F G:α->β->Prop}:∀{l₁:List α}{l₂:List β},Paired F l₁ l₂->(∀a b,F a b->G a b)->Paired G l₁ l₂
 |_,_,.nil,_=>.nil
 |_,_,.cons r t,f=>.cons (f _ _ r) (Paired.mapP t f)
theorem ZX.Zgg (x:ZX P w H h a o) (k:∀b u,(b=a\/H b=some (.own a))->h.get? b=some u->h'.get? b=some u)
  (ho:∀b,H b=some (.own a)->H' b=some (.own a)) (ht:∀b xs,H b=some (.tup xs)->H' b=some (.tup xs)) (hz:∀b o u,H b=some (.frz o u)->H' b=some (.frz o u)):ZX P w H' h' a o:=by
 induction o with
 |lst xs=>obtain⟨z,its,n,r,e⟩:=x;exact⟨z,its,n,r,k _ _ (.inl rfl) e⟩
 |tup xs=>obtain⟨z,its,r,ob,e,c⟩:=x;exact⟨z,its,r,ob,k _ _ (.inl rfl) e,c⟩
 |dK kvs=>obtain⟨z,y,vs,r,ob,es,ep,e,c⟩:=x;exact⟨z,y,vs,r,ob,es,ep,k _ _ (.inl rfl) e,c⟩
 |dT kvs =>
  obtain⟨z,y,xs,r,ob,es,ep,e,c⟩:=x
  exact⟨z,y,xs,Paired.mapP r λp q z=>⟨z.1,ht _ _ z.2.1,z.2.2⟩,ob,es,ep,k _ _ (.inl rfl) e,c⟩
 |set S n=>obtain⟨ob,es,ep,t,e,c⟩:=x;exact⟨ob,es,ep,t,k _ _ (.inl rfl) e,c⟩
 |ins C dx fs =>
  obtain⟨d,z,ne,e,mA,⟨od,es,ep,e2,c⟩,r⟩:=x
  exact⟨ho _ d,z,ne,k _ _ (.inl rfl) e,mA,⟨od,es,ep,k _ _ (.inr d) e2,c⟩,r⟩
 |own y=>obtain⟨ob,e⟩:=x;exact⟨ob,k _ _ (.inl rfl) e⟩
 |xd fs=>obtain⟨mA,⟨od,es,ep,e,c⟩,r⟩:=x;exact⟨mA,⟨od,es,ep,k _ _ (.inl rfl) e,c⟩,r⟩
 |rng lo hi=>obtain⟨t,u,v,e⟩:=x;exact⟨t,u,v,k _ _ (.inl rfl) e⟩
 |frz ob u ih=>obtain⟨e,q⟩:=x;exact⟨k _ _ (.inl rfl) e,ih q⟩
 |tbl ps =>
  obtain⟨ts,e,t3,z⟩:=x
  refine⟨ts,k a _ (.inl rfl) e,t3,λpos cv hc=>?_⟩
  obtain⟨c,oc,vs,q,t,t',e1,e2,r⟩:=z pos cv hc
  exact⟨c,oc,vs,q,t,t',e1,hz _ _ _ e2,r⟩
 |met f y =>
  have e:h.get? a=some (PySem.W.methodObj (.ref f) (.ref y)):=x
  show h'.get? a=some (PySem.W.methodObj (.ref f) (.ref y))
  exact k a _ (.inl rfl) e
 |ext φ=>obtain⟨p,⟨o,e⟩,st⟩:=x;exact⟨st _ _ p λo q=>k _ _ (.inl rfl) q,⟨o,k _ _ (.inl rfl) e⟩,st⟩
theorem HOk.lt (x:HOk P w H h) (e:H a=some o):a<h.objs.size:=(x a o e).lt
theorem HOk.fresh (x:HOk P w H h) (e:h.objs.size<=a):H a=none:=by
 cases q:H a with
 |none=>rfl
 |some u=>exact absurd (Yt (x.lt q) e) (YG _)
theorem HOk.kept (x:HOk P w H h) (k:∀b u,h.get? b=some u->h'.get? b=some u):HOk P w H h':=λa o e =>
 (x a o e).Zgg (λb u _ q=>k b u q) (λ_ q=>q) (λ_ _ q=>q) λ_ _ _ q=>q
theorem HOk.laid (x:HOk P w H h) (k:∀b u,h.get? b=some u->h'.get? b=some u) (hp:h.objs.size<=a) (new:ZX P w (upd H a o) h' a o):HOk P w (upd H a o) h':=λb u e=>by
 have hn:=x.fresh hp
 by_cases hb:b=a
 ·subst hb;rw[Zd]at e;cases e;exact new
 ·rw[Zh hb]at e
  exact(x b u e).Zgg (λc v _ q=>k c v q) (λc q=>by rw[Zh (Zt q hn)];exact q) (λc xs q=>by rw[Zh (Zt q hn)];exact q) λc o u q=>by rw[Zh (Zt q hn)];exact q
end
noncomputable def Rd (H:Hp) (a:Addr) (u:HO):Prop:=H a=some u\/∃o,H a=some (.frz o u)
theorem Rd.ok {P:Program}{w:World}{H:Hp}{h:Heap}{a:Addr}{u:HO} (r:Rd H a u) (x:HOk P w H h):ZX P w H h a u:=by
 rcases r with r|⟨o,r⟩
 ·exact x a u r
 ·obtain⟨_,q⟩:=x a _ r
  exact q
noncomputable def Mut:Option HO->Prop
 |some (.lst _)=>True
 |some (.dK _)=>True
 |some (.dT _)=>True
 |some (.set _ _)=>True
 |some (.ins _ _ _)=>True
 |some (.ext _)=>True
 |_=>False
section
variable {P:Program}{w:World}{H:Hp}{h h':Heap}{x e:Addr}{o':HO}
theorem HOk.write (ok:HOk P w H h) (mu:Mut (H x)) (he:e=x\/H e=some (.own x)) (k:∀b u,b≠e->h.get? b=some u->h'.get? b=some u) (heo:∃u,h'.get? e=some u)
  (new:ZX P w (upd H x o') h' x o'):HOk P w (upd H x o') h':=λb u q=>by
 have nown:∀c y,H c=some (.own y)->c≠x:=λc y r z=>by subst z;rw[r]at mu;exact mu
 have ntup:∀c xs,H c=some (.tup xs)->c≠x:=λc xs r z=>by subst z;rw[r]at mu;exact mu
 have nfrz:∀c o u,H c=some (.frz o u)->c≠x:=λc o u r z=>by subst z;rw[r]at mu;exact mu
 by_cases hb:b=x
 ·subst hb;rw[Zd]at q;cases q;exact new
 ·rw[Zh hb]at q
  by_cases hbe:b=e
  ·have q':H b=some (.own x):=by
    rcases he with z|z
    ·exact absurd (hbe.trans z) hb
    ·rw[hbe];exact z
   rw[q]at q';cases q'
   obtain⟨v,hv⟩:=heo
   exact⟨v,by rw[hbe];exact hv⟩
  ·refine(ok b u q).Zgg (λc v hc r=>k c v ?_ r) (λc r=>by rw[Zh (nown c b r)];exact r) (λc xs r=>by rw[Zh (ntup c xs r)];exact r) λc o u r=>by rw[Zh (nfrz c o u r)];exact r
   rcases hc with rfl|hc
   ·exact hbe
   ·rintro rfl
    rcases he with z|z
    ·exact nown c b hc z
    ·rw[hc]at z;cases z;exact hb rfl
end
structure Un (fs ex:List Addr) (H H':Hp) (h h':Heap):Prop where
 keep:∀b o,h.get? b=some o->H b=none->b∉fs->b∉ex->h'.get? b=some o
 slot:∀b o,h.get? b=some o->H b=none->b∈fs->b∉ex->∃sl,h'.get? b=some {o with slots:=sl}
 free:∀b o,h.get? b=some o->H b=none->b∉ex->H' b=none
 there:∀b o,h.get? b=some o->b∉ex->∃o',h'.get? b=some o'
 tups:∀b xs,H b=some (.tup xs)->H' b=some (.tup xs)
 frzs:∀b o u,H b=some (.frz o u)->H' b=some (.frz o u)
 tbls:∀b ps,H b=some (.tbl ps)->∃more,H' b=some (.tbl (ps++more))
section
variable {fs fs' ex ex':List Addr}{H H1 H2:Hp}{h h1 h2 h':Heap}{a x e:Addr}{o:HO}
theorem Un.any (u:Un fs ex H H1 h h1) {b:Addr}{ob:Obj} (q:h.get? b=some ob) (n:H b=none) (hx:b∉ex):∃sl,h1.get? b=some {ob with slots:=sl}:=by
 by_cases hb:b∈fs
 ·exact u.slot b ob q n hb hx
 ·exact⟨ob.slots,u.keep b ob q n hb hx⟩
theorem Un.kept (k:∀b u,h.get? b=some u->h'.get? b=some u):Un fs ex H H h h' :=
 ⟨λb ob q _ _ _=>k b ob q,λb ob q _ _ _=>⟨ob.slots,k b ob q⟩,λ_ _ _ n _=>n,λb ob q _=>⟨ob,k b ob q⟩,λ_ _ q=>q,λ_ _ _ q=>q,λ_ ps q=>⟨#[],by rw[q];simp⟩⟩
theorem Un.refl:Un fs ex H H h h:=Un.kept λ_ _ q=>q
theorem Un.laid (k:∀b u,h.get? b=some u->h'.get? b=some u) (hp:h.objs.size<=a) (hn:H a=none):Un fs ex H (upd H a o) h h' where
 keep:=λb u q _ _ _=>k b u q
 slot:=λb u q _ _ _=>⟨u.slots,k b u q⟩
 free:=λb u q n _=>by rw[Zh (Yl (Yt (Yi q) hp))];exact n
 there:=λb u q _=>⟨u,k b u q⟩
 tups:=λb xs q=>by rw[Zh (Zt q hn)];exact q
 frzs:=λb u xs q=>by rw[Zh (Zt q hn)];exact q
 tbls:=λb ps q=>⟨#[],by rw[Zh (Zt q hn),q];simp⟩
theorem Un.write (mu:Mut (H x)) (he:e=x\/H e=some (.own x)) (k:∀b u,b≠e->h.get? b=some u->h'.get? b=some u) (heo:∃u,h'.get? e=some u):Un fs ex H (upd H x o) h h':=by
 have hx:∀b,H b=none->b≠x:=λb n z=>by subst z;rw[n]at mu;exact mu
 have hb:∀b,H b=none->b≠e:=λb n z=>by
  subst z
  rcases he with r|r
  ·exact hx b n r
  ·rw[n]at r;cases r
 have hm:∀b u,H b=some u->¬ Mut (some u)->b≠x:=λb u q nm z=>by subst z;rw[q]at mu;exact nm mu
 refine⟨λb u q n _ _=>k b u (hb b n) q,λb u q n _ _=>⟨u.slots,k b u (hb b n) q⟩,λb u q n _=>by rw[Zh (hx b n)];exact n,λb u q _=>?_,
  λb xs q=>by rw[Zh (hm b _ q λz=>z)];exact q,λb u xs q=>by rw[Zh (hm b _ q λz=>z)];exact q,λb ps q=>⟨#[],by rw[Zh (hm b _ q λz=>z),q];simp⟩⟩
 by_cases hbe:b=e
 ·subst hbe;exact heo
 ·exact⟨u,k b u hbe q⟩
end
noncomputable def trk (h:Heap) (H:Hp):List Addr:=(List.range h.objs.size).filter λa=>(H a).isSome
noncomputable def Zg7 (h:Heap) (H:Hp):Heap:=PySem.W.hideAll h (trk h H)
theorem Zj1 (h:Heap) (H:Hp):(Zg7 h H).objs.size=h.objs.size:=PySem.W.hideAll_size _ _
theorem Zld {h:Heap}{H:Hp}{b:Addr}{o:Obj} (e:h.get? b=some o) (n:H b=none):(Zg7 h H).get? b=some o :=
 PySem.W.hideAll_get _ e λhm=>by
  have q:(H b).isSome=true:=(YJ.mp hm).2
  rw[n]at q;simp at q
theorem ZmJ {h:Heap}{H:Hp}{b:Addr}{o:Obj} (e:(Zg7 h H).get? b=some o):h.get? b=some o/\H b=none:=by
 have e':h.get? b=some o:=PySem.W.of_hideAll (trk h H) e
 refine⟨e',?_⟩
 cases q:H b with
 |none=>rfl
 |some x =>
  have hm:b∈trk h H:=YJ.mpr ⟨Yr.mpr (Yi e'),by simp[q]⟩
  have z:(Zg7 h H).get? b=none:=PySem.W.hideAll_none (trk h H) hm
  rw[z]at e;cases e
noncomputable def ZmK (g h:Heap) (L:Addr):List (Addr×Obj):=(List.range h.objs.size).filterMap λa=>if a=L\/(g.get? a).isSome=true then none else (h.get? a).map λo=>(a,o)
noncomputable def rest (g h:Heap) (L d:Addr):List (Addr×Obj):=(ZmK g h L).filter λp=>decide (p.1≠d)
structure Mod (K:PySem.W.Frag) (mg:Str->Option Value) (base:Heap):Prop where
 kin:K.In base
 glob:base.Ns mainGlobals mg
 blt:∃mb,base.Ns builtinsNs mb/\∀x:Str,x≠"__name__"->mb x=bootBuiltins x
 nolimit:base.NoLimit
structure Cx where
 prog:Program
 w:World
 K:PySem.W.Frag
 mg:Str->Option Value
 base:Heap
 A:Around
 N:List Str
 s₀:Shared
 H₀:Hp
 env:Env
 outer:List Env
 stack:List Env
 ex:List Addr
 fn:Str->Bool
 calm:Bool
 pn:List (Addr×Obj)
 xe:Value->Shared->Prop
noncomputable def frs (l:List Env):List Addr:=l.filterMap (·.frame)
noncomputable abbrev Cx.fs (X:Cx):List Addr:=frs X.outer
noncomputable def Vis (sc:Scope) (x:Str):Prop:=sc.names.lookup x=some .local\/sc.names.lookup x=some .cell\/sc.names.lookup x=some .free
noncomputable def Loc (sc:Scope) (x:Str):Prop:=sc.names.lookup x=some .local\/sc.names.lookup x=some .cell
noncomputable def Look (env:Env) (h:Heap) (m:Str->Option Value) (x:Str) (u:Value):Prop :=
 (env.kindOf x=some .local/\m x=some u)\/((env.kindOf x=some .cell\/env.kindOf x=some .free)/\∃c,env.cells.lookup x=some c/\h.IsCell c (some u))
structure Cx.Ok (X:Cx):Prop where
 mod:Mod X.K X.mg X.base
 kind:X.env.scope.kind=.function
 glob:X.env.globals=mainGlobals
 blt:X.env.builtins=builtinsNs
 above:X.s₀.heap.objs.size<=X.env.locals
 inj:∀x y c,X.env.cells.lookup x=some c->X.env.cells.lookup y=some c->x=y
 has:∀x,(X.env.kindOf x=some .cell\/X.env.kindOf x=some .free)->∃c,X.env.cells.lookup x=some c
 cab:∀x c,X.fn x=true->X.env.cells.lookup x=some c->X.s₀.heap.objs.size<=c
 hd:X.calm=true->X.A.handled=none
 frames:X.A.frames=some X.stack
 stk:X.stack=X.outer\/(X.stack=X.env::X.outer/\X.env.frame=some X.env.locals)
 exf:∀b∈X.ex,b≠X.env.locals/\∀x c,X.env.cells.lookup x=some c->c≠b
 bs:∀b o,X.base.get? b=some o->X.s₀.heap.get? b=some o/\X.H₀ b=none
 bsz:X.base.objs.size<=X.s₀.heap.objs.size
 noex:∀b o,X.base.get? b=some o->b∉X.ex
 exfs:∀b∈X.ex,b∉X.fs
 funs:X.s₀.heap.FunFrames X.base X.outer
 frf:∀b∈X.fs,X.H₀ b=none
structure Inv (X:Cx) (pins:List (Addr×Obj)) (σ:List (Option V)) (H:Hp) (s:Shared):Prop where
 ok:X.Ok
 os:s.os=X.s₀.os
 bare:AllBare s.gens
 base:Un X.fs X.ex X.H₀ H X.s₀.heap s.heap
 loc:∃m,s.heap.Ns X.env.locals m/\∀(i:Nat) (x:Str) (v:V),X.N[i]?=some x->σ[i]?=some (some v)->Vis X.env.scope x->∃u,RelV v u/\Look X.env s.heap m x u
 cell:∀x c,X.env.cells.lookup x=some c->∃v,s.heap.IsCell c v
 free:H X.env.locals=none
 freeC:∀x c,X.env.cells.lookup x=some c->H c=none
 pin:∀p∈X.pn++pins,s.heap.get? p.1=some p.2/\H p.1=none/\p.1≠X.env.locals/\p.1∉X.fs/\∀v,p.2.data≠.cell v
 hok:HOk X.prog X.w H s.heap
 len:σ.length=X.N.length
section
variable {X:Cx}{pins:List (Addr×Obj)}{σ:List (Option V)}{H H':Hp}{s:Shared}{h':Heap}
theorem Cx.Ok.nofr (ok:X.Ok) {b:Addr}{o:Obj} (e:X.base.get? b=some o):b∉X.fs:=λhb=>by
 have:=(ok.funs.mem hb).1
 rw[e]at this;cases this
theorem Inv.bs (I:Inv X pins σ H s):∀b o,X.base.get? b=some o->s.heap.get? b=some o/\H b=none:=λb o e =>
 ⟨I.base.keep b o (I.ok.bs b o e).1 (I.ok.bs b o e).2 (I.ok.nofr e) (I.ok.noex b o e),I.base.free b o (I.ok.bs b o e).1 (I.ok.bs b o e).2 (I.ok.noex b o e)⟩
theorem Inv.bk (I:Inv X pins σ H s):∀b o,X.base.get? b=some o->s.heap.get? b=some o:=λb o e=>(I.bs b o e).1
theorem Inv.mod (I:Inv X pins σ H s):Mod X.K X.mg X.base:=I.ok.mod
theorem Inv.kIn (I:Inv X pins σ H s):X.K.In s.heap:=I.ok.mod.kin.keeps I.bk
theorem Inv.lt (I:Inv X pins σ H s):X.env.locals<s.heap.objs.size:=let ⟨_,hn,_⟩:=I.loc;hn.lt
theorem Inv.sz (I:Inv X pins σ H s):X.s₀.heap.objs.size<=s.heap.objs.size:=Yn I.ok.above (YX I.lt)
theorem Inv.nofs (I:Inv X pins σ H s) {a:Addr} (h:s.heap.objs.size<=a):a∉X.fs:=λhb=>by
 obtain⟨_,o,ho,_⟩:=I.ok.funs.mem hb
 exact absurd (Yt (Yi ho) (Yn I.sz h)) (YG _)
theorem Inv.cne (I:Inv X pins σ H s):∀x c,X.env.cells.lookup x=some c->c≠X.env.locals:=λx c e z=>by
 obtain⟨v,o,ho,hd⟩:=I.cell x c e
 obtain⟨m,⟨o',es,ep,ho',hd',_⟩,_⟩:=I.loc
 rw[z,ho']at ho;cases ho;rw[hd']at hd;cases hd
theorem Inv.funs (I:Inv X pins σ H s):s.heap.FunFrames X.base X.outer:=by
 have all:∀(l:List Env),(∀b∈frs l,b∈X.fs)->X.s₀.heap.FunFrames X.base l->s.heap.FunFrames X.base l:=by
  intro l
  induction l with
  |nil=>intro _ _;trivial
  |cons env r ih =>
   intro hs hl
   obtain⟨hk,⟨L,o,hf,hn,ho,hd⟩,hr⟩:=hl
   have hL:L∈X.fs:=hs L (by unfold frs;rw[List.filterMap_cons,hf];exact YM)
   obtain⟨sl,e⟩:=I.base.slot L o ho (I.ok.frf L hL) hL λz=>I.ok.exfs L z hL
   exact⟨hk,⟨L,_,hf,hn,e,hd⟩,ih (λb hb=>hs b (by unfold frs;rw[List.filterMap_cons,hf];exact YK _ hb)) hr⟩
 exact all X.outer (λ_ hb=>hb) I.ok.funs
theorem Inv.stack (I:Inv X pins σ H s):s.heap.FunFrames X.base X.stack:=by
 rcases I.ok.stk with e|⟨e,hf⟩
 ·rw[e];exact I.funs
 ·rw[e]
  obtain⟨m,hn,_⟩:=I.loc
  refine .cons (by rw[I.ok.kind];decide) hf hn ?_ I.funs
  exact Heap.get?_none_of_le (Yn I.ok.bsz I.ok.above)
theorem Inv.Zei (I:Inv X pins σ H s):∀b∈frs X.stack,b∈X.env.locals::X.fs:=λb hb=>by
 rcases I.ok.stk with e|⟨e,hf⟩
 ·rw[e]at hb;exact YK _ hb
 ·rw[e]at hb
  unfold frs at hb
  rw[List.filterMap_cons,hf]at hb
  exact hb
theorem Inv.Zg8 (I:Inv X pins σ H s):∀b∈frs X.stack,H b=none:=λb hb=>by
 rcases Yj.mp (I.Zei b hb)with e|hb
 ·rw[e];exact I.free
 ·obtain⟨_,o,ho,_⟩:=I.ok.funs.mem hb
  exact I.base.free b o ho (I.ok.frf b hb) λz=>I.ok.exfs b z hb
theorem Inv.step {g':Array GenState}{t':Nat}{d':Drawn}{ch:List Addr} (I:Inv X pins σ H s)
  (hch:∀b∈ch,(b∈X.ex\/X.s₀.heap.objs.size<=b)/\b≠X.env.locals/\(∀x c,X.env.cells.lookup x=some c->c≠b)/\∀p∈X.pn++pins,p.1≠b)
  (keep:∀b o,b≠X.env.locals->b∉X.fs->b∉ch->s.heap.get? b=some o->H b=none->h'.get? b=some o)
  (slot:∀b o,b≠X.env.locals->b∈X.fs->b∉ch->s.heap.get? b=some o->H b=none->∃sl,h'.get? b=some {o with slots:=sl}) (free:∀b o,b∉ch->s.heap.get? b=some o->H b=none->H' b=none)
  (there:∀b o,b∉ch->s.heap.get? b=some o->∃o',h'.get? b=some o')
  (tups:∀b xs,H b=some (.tup xs)->H' b=some (.tup xs)) (frzs:∀b o u,H b=some (.frz o u)->H' b=some (.frz o u)) (tbls:∀b ps,H b=some (.tbl ps)->∃more,H' b=some (.tbl (ps++more)))
  (ns:∀m,s.heap.Ns X.env.locals m->h'.Ns X.env.locals m) (hok:HOk X.prog X.w H' h') (hg:AllBare g') :
  Inv X pins σ H' {s with heap:=h',gens:=g',drawn:=d',toks:=t'}:=by
 have neL:∀b o,X.s₀.heap.get? b=some o->b≠X.env.locals:=λb o e=>Yl (Yt (Yi e) I.ok.above)
 have neC:∀b o,X.s₀.heap.get? b=some o->b∉X.ex->b∉ch:=λb o e hx hb=>by
  rcases(hch b hb).1 with z|z
  ·exact hx z
  ·exact absurd (Yt (Yi e) z) (YG _)
 have cellK:∀x c,X.env.cells.lookup x=some c->∀v,s.heap.IsCell c v->h'.IsCell c v:=λx c e v ⟨o,ho,hd⟩=>by
  have nch:c∉ch:=λz=>(hch c z).2.2.1 x c e rfl
  by_cases hc:c∈X.fs
  ·obtain⟨sl,q⟩:=slot c o (I.cne x c e) hc nch ho (I.freeC x c e)
   exact⟨_,q,hd⟩
  ·exact⟨o,keep c o (I.cne x c e) hc nch ho (I.freeC x c e),hd⟩
 refine⟨I.ok,I.os,hg,⟨λb o e n hb hx=>?_,λb o e n hb hx=>?_,λb o e n hx=>?_,λb o e hx=>?_,λb xs e=>tups b xs (I.base.tups b xs e),λb o xs e=>frzs b o xs (I.base.frzs b o xs e),λb ps e=>?_⟩,?_,λx c e=>?_,?_,λx c e=>?_,λp hp=>?_,hok,I.len⟩
 ·exact keep b o (neL b o e) hb (neC b o e hx) (I.base.keep b o e n hb hx) (I.base.free b o e n hx)
 ·obtain⟨sl,e1⟩:=I.base.slot b o e n hb hx
  obtain⟨sl',e2⟩:=slot b _ (neL b o e) hb (neC b o e hx) e1 (I.base.free b o e n hx)
  exact⟨sl',e2⟩
 ·obtain⟨o',e1⟩:=I.base.there b o e hx
  exact free b o' (neC b o e hx) e1 (I.base.free b o e n hx)
 ·obtain⟨o',e1⟩:=I.base.there b o e hx
  exact there b o' (neC b o e hx) e1
 ·obtain⟨m1,e1⟩:=I.base.tbls b ps e
  obtain⟨m2,e2⟩:=tbls b _ e1
  exact⟨m1++m2,by rw[e2,Array.append_assoc]⟩
 ·obtain⟨m,hn,hl⟩:=I.loc
  refine⟨m,ns m hn,λi x v e1 e2 e3=>?_⟩
  obtain⟨u,r,l⟩:=hl i x v e1 e2 e3
  refine⟨u,r,?_⟩
  rcases l with l|⟨k,c,e,z⟩
  ·exact .inl l
  ·exact .inr ⟨k,c,e,cellK x c e _ z⟩
 ·obtain⟨v,z⟩:=I.cell x c e
  exact⟨v,cellK x c e v z⟩
 ·obtain⟨m,⟨o,_,_,ho,_⟩,_⟩:=I.loc
  exact free _ o (λz=>(hch _ z).2.1 rfl) ho I.free
 ·obtain⟨v,o,ho,hd⟩:=I.cell x c e
  exact free c o (λz=>(hch c z).2.2.1 x c e rfl) ho (I.freeC x c e)
 ·obtain⟨e,n,ne,nf,d⟩:=I.pin p hp
  have nch:p.1∉ch:=λz=>(hch p.1 z).2.2.2 p hp rfl
  exact⟨keep p.1 p.2 ne nf nch e n,free p.1 p.2 nch e n,ne,nf,d⟩
theorem Inv.un {t':Nat} (I:Inv X pins σ H s) (u:Un X.fs [] H H' s.heap h') (hok:HOk X.prog X.w H' h'):Inv X pins σ H' {s with heap:=h',toks:=t'}:=by
 obtain⟨m,⟨o,es,ep,ho,r⟩,_⟩:=id I.loc
 obtain⟨sl,hL⟩:=u.any ho I.free (by simp)
 exact I.step (g':=s.gens) (d':=s.drawn) (ch:=[]) (λ_ z=>nomatch z) (λb o _ hb _ e n=>u.keep b o e n hb (by simp)) (λb o _ hb _ e n=>u.slot b o e n hb (by simp)) (λb o _ e n=>u.free b o e n (by simp)) (λb o _ e=>u.there b o e (by simp)) u.tups u.frzs u.tbls (λm' hm=>by
  obtain⟨o',es',ep',ho',r'⟩:=hm
  rw[ho]at ho';cases ho'
  exact⟨_,es',ep',hL,r'⟩) hok I.bare
theorem Inv.call {g':Array GenState}{t':Nat}{d':Drawn}{ch:List Addr} (I:Inv X pins σ H s) (u:Un (frs X.stack) ch H H' s.heap h') (hok:HOk X.prog X.w H' h') (hg:AllBare g')
  (hch:∀b∈ch,(b∈X.ex\/X.s₀.heap.objs.size<=b)/\b≠X.env.locals/\(∀x c,X.env.cells.lookup x=some c->c≠b)/\∀p∈X.pn++pins,p.1≠b) :
  Inv X pins σ H' {s with heap:=h',gens:=g',drawn:=d',toks:=t'}:=by
 obtain⟨m,⟨o,es,ep,ho,r⟩,_⟩:=id I.loc
 obtain⟨sl,hL⟩:=u.any ho I.free λz=>(hch _ z).2.1 rfl
 exact I.step (ch:=ch) hch (λb o hL hb hc e n=>u.keep b o e n (λz=>(Yj.mp (I.Zei b z)).elim hL hb) hc) (λb o _ _ hc e n=>u.any e n hc) (λb o hc e n=>u.free b o e n hc) (λb o hc e=>u.there b o e hc) u.tups u.frzs u.tbls (λm' hm=>by
  obtain⟨o',es',ep',ho',r'⟩:=hm
  rw[ho]at ho';cases ho'
  exact⟨_,es',ep',hL,r'⟩) hok hg
theorem Inv.turned {t':Nat}{it:Addr} (I:Inv X pins σ H s) (k:∀b o,b≠it->s.heap.get? b=some o->h'.get? b=some o) (hn:H it=none) (hL:it≠X.env.locals)
  (h1:it∈X.ex\/X.s₀.heap.objs.size<=it) (h2:∀x c,X.env.cells.lookup x=some c->c≠it) (h3:∀p∈X.pn++pins,p.1≠it):Inv X pins σ H {s with heap:=h',toks:=t'}:=by
 have nit:∀b u,H b=some u->b≠it:=λb u e z=>by rw[z,hn]at e;cases e
 refine I.step (g':=s.gens) (d':=s.drawn) (ch:=[it]) (λb hb=>?_) (λb o _ _ hc e _=>k b o (λz=>hc (by simp[z])) e) (λb o _ _ hc e _=>⟨o.slots,k b o (λz=>hc (by simp[z])) e⟩) (λ_ _ _ _ n=>n)
  (λb o hc e=>⟨o,k b o (λz=>hc (by simp[z])) e⟩) (λ_ _ e=>e) (λ_ _ _ e=>e) (λb ps e=>⟨#[],by rw[e];simp⟩) (λm hm=>?_) (λb u e=>?_) I.bare
 ·have e:b=it:=by simpa using hb
  subst e
  exact⟨h1,hL,h2,h3⟩
 ·obtain⟨o,es,ep,ho,r⟩:=hm
  exact⟨o,es,ep,k _ o (Ne.symm hL) ho,r⟩
 ·refine(I.hok b u e).Zgg (λc v hc q=>k c v ?_ q) (λ_ q=>q) (λ_ _ q=>q) λ_ _ _ q=>q
  rcases hc with z|z
  ·rw[z];exact nit b u e
  ·exact nit c _ z
theorem Inv.tok (I:Inv X pins σ H s) (t:Nat):Inv X pins σ H {s with toks:=t}:=I.un (h':=s.heap) (t':=t) Un.refl I.hok
theorem Inv.kept {t':Nat} (I:Inv X pins σ H s) (k:∀b u,s.heap.get? b=some u->h'.get? b=some u):Inv X pins σ H {s with heap:=h',toks:=t'}:=I.un (Un.kept k) (I.hok.kept k)
theorem Inv.laid {a:Addr}{o:HO}{t':Nat} (I:Inv X pins σ H s) (k:∀b u,s.heap.get? b=some u->h'.get? b=some u) (hp:s.heap.objs.size<=a) (new:ZX X.prog X.w (upd H a o) h' a o) :
  Inv X pins σ (upd H a o) {s with heap:=h',toks:=t'}:=I.un (Un.laid k hp (I.hok.fresh hp)) (I.hok.laid k hp new)
theorem Inv.write {x e:Addr}{o:HO}{t':Nat} (I:Inv X pins σ H s) (mu:Mut (H x)) (he:e=x\/H e=some (.own x)) (k:∀b u,b≠e->s.heap.get? b=some u->h'.get? b=some u) (heo:∃u,h'.get? e=some u)
  (new:ZX X.prog X.w (upd H x o) h' x o):Inv X pins σ (upd H x o) {s with heap:=h',toks:=t'}:=I.un (Un.write mu he k heo) (I.hok.write mu he k heo new)
theorem Inv.weak {σ':List (Option V)} (I:Inv X pins σ H s) (hl:σ'.length=σ.length) (w:∀(i:Nat) v,σ'[i]?=some (some v)->σ[i]?=some (some v)):Inv X pins σ' H s :=
 ⟨I.ok,I.os,I.bare,I.base,let ⟨m,hn,hl'⟩:=I.loc;⟨m,hn,λi x v e1 e2 e3=>hl' i x v e1 (w i v e2) e3⟩,I.cell,I.free,I.freeC,I.pin,I.hok,hl.trans I.len⟩
theorem Inv.ZdO {pins':List (Addr×Obj)} (I:Inv X pins σ H s) (h:∀p∈pins',s.heap.get? p.1=some p.2/\H p.1=none/\p.1≠X.env.locals/\p.1∉X.fs/\∀v,p.2.data≠.cell v):Inv X pins' σ H s :=
 ⟨I.ok,I.os,I.bare,I.base,I.loc,I.cell,I.free,I.freeC,λp hp=>(Ys.mp hp).elim (λz=>I.pin p (YN _ z)) (h p),I.hok,I.len⟩
theorem ZhM {N:List Str} (hN:N.Nodup) {i j:Nat}{x:Str} (a:N[i]?=some x) (b:N[j]?=some x):i=j:=by
 obtain⟨h1,e1⟩:=Yw.mp a
 obtain⟨h2,e2⟩:=Yw.mp b
 exact(List.getElem_inj hN).mp (e1.trans e2.symm)
theorem Zj2 {M:Model}{A:Around}{E:Value->Shared->Prop}{i:Nat}{x:Str}{v:V}{u:Value}{Q:Unit->Shared->Prop} (I:Inv X pins σ H s) (hN:X.N.Nodup) (hi:X.N[i]?=some x) (hx:Loc X.env.scope x) (r:RelV v u)
  (h:∀s',Inv X pins (σ.set i (some v)) H s'->(∃a,Heap.SameBut a s.heap s'.heap/\(a=X.env.locals\/X.env.cells.lookup x=some a))->Q () s') (hf:X.fn x=true\/X.env.scope.names.lookup x=some .local:=by first|exact .inl rfl|exact .inr rfl|assumption):wpAny M A (storeName X.env x u) Q E s:=by
 obtain⟨m,hn,hl⟩:=id I.loc
 have hcls:(X.env.scope.kind==.class||(X.env.scope.kind==.module&&X.env.locals != X.env.globals))=false:=by rw[I.ok.kind];rfl
 have hiσ:i < σ.length:=by rw[I.len];exact(Yw.mp hi).1
 have cne:=I.cne
 have tracked:∀{a:Addr}{h':Heap},(∃o,s.heap.get? a=some o/\H a=none)->Heap.SameBut a s.heap h'->HOk X.prog X.w H h':=λ{a h'} ha hs b ob e=>by
  obtain⟨_,_,hfree⟩:=ha
  refine(I.hok b ob e).Zgg (λc w' hc q=>(hs.2 c ?_).trans q) (λ_ q=>q) (λ_ _ q=>q) λ_ _ _ q=>q
  rintro rfl
  rcases hc with rfl|hc
  ·rw[hfree]at e;cases e
  ·rw[hfree]at hc;cases hc
 rcases hx with hk|hk
 ·refine wpAny_storeName_local hk hn (λh' hn' hs=>?_) hcls
  obtain⟨oL,_,_,hoL,_⟩:=id hn
  refine h _ ⟨I.ok,I.os,I.bare,⟨λb o e n hb hx=>?_,λb o e n hb hx=>?_,I.base.free,λb o e hx=>?_,I.base.tups,I.base.frzs,I.base.tbls⟩,⟨_,hn',λj y v' e1 e2 e3=>?_⟩,λy c e=>?_,I.free,I.freeC,λp hp=>?_,tracked ⟨oL,hoL,I.free⟩ hs,by simpa using I.len⟩ ⟨_,hs,.inl rfl⟩
  ·exact(hs.2 b (Yl (Yt (Yi e) I.ok.above))).trans (I.base.keep b o e n hb hx)
  ·obtain⟨sl,e1⟩:=I.base.slot b o e n hb hx
   exact⟨sl,(hs.2 b (Yl (Yt (Yi e) I.ok.above))).trans e1⟩
  ·obtain⟨o',e1⟩:=I.base.there b o e hx
   exact⟨o',(hs.2 b (Yl (Yt (Yi e) I.ok.above))).trans e1⟩
  ·by_cases hj:j=i
   ·subst hj
    rw[hi]at e1;cases e1
    rw[List.getElem?_set_self hiσ]at e2
    cases e2
    exact⟨u,r,.inl ⟨hk,by simp⟩⟩
   ·rw[List.getElem?_set_ne (Ne.symm hj)]at e2
    obtain⟨u',r',q⟩:=hl j y v' e1 e2 e3
    refine⟨u',r',?_⟩
    rcases q with⟨k,e⟩|⟨k,c,e,z⟩
    ·refine .inl ⟨k,?_⟩
     have:y≠x:=λe=>hj (ZhM hN e1 (e▸hi))
     simp[this,e]
    ·exact .inr ⟨k,c,e,z.sameBut hs (cne y c e)⟩
  ·obtain⟨w',z⟩:=I.cell y c e
   exact⟨w',z.sameBut hs (cne y c e)⟩
  ·obtain⟨e,n,ne,nf,d⟩:=I.pin p hp
   exact⟨(hs.2 p.1 ne).trans e,n,ne,nf,d⟩
 ·have hfn:X.fn x=true:=by
   rcases hf with z|z
   ·exact z
   ·rw[z]at hk;cases hk
  obtain⟨c,hc⟩:=I.ok.has x (.inl hk)
  obtain⟨w',z⟩:=I.cell x c hc
  refine wpAny_storeName_cell I.ok.kind hk hc z (λh' hc' hs=>?_)
  obtain⟨oc,hoc,hocd⟩:=id z
  refine h {s with heap:=h'} ⟨I.ok,I.os,I.bare,⟨λb o e n hb hx=>?_,λb o e n hb hx=>?_,I.base.free,λb o e hx=>?_,I.base.tups,I.base.frzs,I.base.tbls⟩,⟨m,hn.sameBut hs (Ne.symm (cne x c hc)),λj y v' e1 e2 e3=>?_⟩,λy c' e=>?_,I.free,I.freeC,λp hp=>?_,tracked ⟨oc,hoc,I.freeC x c hc⟩ hs,by simpa using I.len⟩ ⟨c,hs,.inr hc⟩
  ·exact(hs.2 b (Yl (Yt (Yi e) (I.ok.cab x c hfn hc)))).trans (I.base.keep b o e n hb hx)
  ·obtain⟨sl,e1⟩:=I.base.slot b o e n hb hx
   exact⟨sl,(hs.2 b (Yl (Yt (Yi e) (I.ok.cab x c hfn hc)))).trans e1⟩
  ·obtain⟨o',e1⟩:=I.base.there b o e hx
   exact⟨o',(hs.2 b (Yl (Yt (Yi e) (I.ok.cab x c hfn hc)))).trans e1⟩
  ·by_cases hj:j=i
   ·subst hj
    rw[hi]at e1;cases e1
    rw[List.getElem?_set_self hiσ]at e2
    cases e2
    exact⟨u,r,.inr ⟨.inl hk,c,hc,hc'⟩⟩
   ·rw[List.getElem?_set_ne (Ne.symm hj)]at e2
    obtain⟨u',r',q⟩:=hl j y v' e1 e2 e3
    refine⟨u',r',?_⟩
    rcases q with q|⟨k,c',e,z'⟩
    ·exact .inl q
    ·refine .inr ⟨k,c',e,z'.sameBut hs ?_⟩
     rintro rfl
     exact hj (ZhM hN e1 (I.ok.inj _ _ _ e hc▸hi))
  ·by_cases hcc:c'=c
   ·subst hcc;exact⟨_,hc'⟩
   ·obtain⟨w2,z2⟩:=I.cell y c' e
    exact⟨w2,z2.sameBut hs hcc⟩
  ·obtain⟨e,n,ne,nf,d⟩:=I.pin p hp
   refine⟨(hs.2 p.1 ?_).trans e,n,ne,nf,d⟩
   intro q
   rw[q,hoc]at e
   have q':oc=p.2:=YA e
   exact d w' (by rw[<-q'];exact hocd)
theorem Zfl {M:Model}{A:Around}{E:Value->Shared->Prop}{i:Nat}{x:Str}{v:V}{u:Value}{Q:Unit->Shared->Prop} (I:Inv X pins σ H s) (hN:X.N.Nodup) (hi:X.N[i]?=some x) (hx:Loc X.env.scope x) (r:RelV v u)
  (h:∀s',Inv X pins (σ.set i (some v)) H s'->Q () s') (hf:X.fn x=true\/X.env.scope.names.lookup x=some .local:=by first|exact .inl rfl|exact .inr rfl|assumption):wpAny M A (storeName X.env x u) Q E s :=
 Zj2 I hN hi hx r (λs' I' _=>h s' I') hf
theorem Inv.call' {s':Shared}{ch:List Addr} (I:Inv X pins σ H s) (ho:s'.os=s.os) (u:Un (frs X.stack) ch H H' s.heap s'.heap) (hok:HOk X.prog X.w H' s'.heap) (hg:AllBare s'.gens)
  (hch:∀b∈ch,(b∈X.ex\/X.s₀.heap.objs.size<=b)/\b≠X.env.locals/\(∀x c,X.env.cells.lookup x=some c->c≠b)/\∀p∈X.pn++pins,p.1≠b):Inv X pins σ H' s':=by
 obtain⟨h',g',d',t',o'⟩:=s'
 have e:o'=s.os:=ho
 subst e
 exact I.call (g':=g') (t':=t') (d':=d') u hok hg hch
end
noncomputable abbrev XK:=Value->Option Addr->Hp->Prop
noncomputable abbrev St:=List (Option V)
noncomputable abbrev VK:=V->Hp->Prop
noncomputable abbrev TE:=St->Hp->VK->Prop
noncomputable abbrev TT:=St->Hp->(Bool->Hp->Prop)->Prop
noncomputable abbrev TA:=St->Hp->(List V->Hp->Prop)->Prop
structure Ends where
 nx:St->Hp->Prop
 rt:VK
 bk:St->Hp->Prop:=λ_ _=>False
 ct:St->Hp->Prop:=λ_ _=>False
noncomputable abbrev TS:=Ends->St->Hp->Prop
noncomputable def EP (X:Cx) (pins:List (Addr×Obj)) (σ:St) (Q:VK) (u:Value) (s':Shared):Prop:=∃v H',Inv X pins σ H' s'/\RelV v u/\Q v H'
noncomputable def TP (X:Cx) (pins:List (Addr×Obj)) (σ:St) (Q:Bool->Hp->Prop) (b:Bool) (s':Shared):Prop:=∃H',Inv X pins σ H' s'/\Q b H'
noncomputable def AP (X:Cx) (pins:List (Addr×Obj)) (σ:St) (Q:List V->Hp->Prop) (us:List Value) (s':Shared):Prop:=∃vs H',Inv X pins σ H' s'/\Vals vs us/\Q vs H'
noncomputable def SP (X:Cx) (pins:List (Addr×Obj)) (D:Ends) (f:Flow) (s':Shared):Prop :=
 match f with
 |.next=>∃σ' H',Inv X pins σ' H' s'/\D.nx σ' H'
 |.brk=>∃σ' H',Inv X pins σ' H' s'/\D.bk σ' H'
 |.cont=>∃σ' H',Inv X pins σ' H' s'/\D.ct σ' H'
 |.ret u=>∃v σ' H',Inv X pins σ' H' s'/\RelV v u/\D.rt v H'
noncomputable def PE (X:Cx) (e:Expr) (t:TE):Prop :=
 ∀(pins:List (Addr×Obj)) (s:Shared) (σ:St) (H:Hp) (Q:VK),Inv X pins σ H s->t σ H Q->wpAny (model X.prog X.w) X.A (eval e X.env) (EP X pins σ Q) X.xe s
noncomputable def PT (X:Cx) (e:Expr) (t:TT):Prop :=
 ∀(pins:List (Addr×Obj)) (s:Shared) (σ:St) (H:Hp) (Q:Bool->Hp->Prop),Inv X pins σ H s->t σ H Q->wpAny (model X.prog X.w) X.A (isTrue e X.env (eval e X.env)) (TP X pins σ Q) X.xe s
noncomputable def PW (X:Cx) (e:Expr) (t:TT):Prop :=
 ∀(whole:Sem Value) (pins:List (Addr×Obj)) (s:Shared) (σ:St) (H:Hp) (Q:Bool->Hp->Prop),Inv X pins σ H s->t σ H Q->wpAny (model X.prog X.w) X.A (isTrue e X.env whole) (TP X pins σ Q) X.xe s
theorem PW.pt {X:Cx}{e:Expr}{t:TT} (h:PW X e t):PT X e t:=h _
noncomputable def PA (X:Cx) (es:List Expr) (t:TA):Prop :=
 ∀(pos:Pos) (pins:List (Addr×Obj)) (s:Shared) (σ:St) (H:Hp) (Q:List V->Hp->Prop),Inv X pins σ H s->t σ H Q->wpAny (model X.prog X.w) X.A (spliced (backTo pos (starEach es X.env))) (AP X pins σ Q) X.xe s
noncomputable def PS (X:Cx) (st:Stmt) (t:TS):Prop :=
 ∀(pins:List (Addr×Obj)) (s:Shared) (σ:St) (H:Hp) (D:Ends),Inv X pins σ H s->t D σ H->wpAny (model X.prog X.w) X.A (exec st X.env) (SP X pins D) X.xe s
noncomputable def PSs (X:Cx) (st:List Stmt) (t:TS):Prop :=
 ∀(pins:List (Addr×Obj)) (s:Shared) (σ:St) (H:Hp) (D:Ends),Inv X pins σ H s->t D σ H->wpAny (model X.prog X.w) X.A (execs st X.env) (SP X pins D) X.xe s
theorem thn {α:Type}{t:Sem α}{Q Q':α->Shared->Prop}{M:Model}{A:Around}{E:Value->Shared->Prop}{s:Shared} (h:wpAny M A t Q E s) (hQ:∀a s,Q a s->Q' a s):wpAny M A t Q' E s:=YT h hQ λ_ _ x=>x
section
variable {X:Cx}
noncomputable def tVar (i:Nat):TE:=fun σ H Q=>∃v,σ[i]?=some (some v)/\Q v H
noncomputable def tC (v:V):TE:=λ_ H Q=>Q v H
theorem pe_var {i:Nat}{x:Str}{pos:Pos} (hN:X.N[i]?=some x) (hv:Vis X.env.scope x) (hd:(x==("__debug__":Str))=false:=by decide) (hcd:(x==("__classdict__":Str))=false:=by decide):PE X (.Name x pos) (tVar i):=by
 intro pins s σ H Q I h
 obtain⟨v,e,h⟩:=h
 obtain⟨m,hn,hl⟩:=I.loc
 obtain⟨u,r,l⟩:=hl i x v hN e hv
 have fin:EP X pins σ Q u s:=⟨v,H,I,r,h⟩
 rcases l with⟨hk,hm⟩|⟨hk,c,hc,hcell⟩
 ·exact wpAny_Name (wpAny_loadName_local I.ok.kind hk hn hm fin) hd
 ·rcases hk with hk|hk
  ·exact wpAny_Name (wpAny_loadName_cell I.ok.kind hk hc hcell fin) hd
  ·exact wpAny_Name (wpAny_loadName_free I.ok.kind hk hc hcell fin hcd) hd
theorem Zg {i j pos}:PE X (.Constant (.int i) j pos) (tC (.int i)):=λ_ _ _ H _ I h=>wpAny_Constant_int ⟨.int i,H,I.tok _,⟨_,rfl⟩,h⟩
theorem Zfm {b j pos}:PE X (.Constant (.bool b) j pos) (tC (.bl b)):=λ_ _ _ H _ I h=>Constant_bool ⟨.bl b,H,I,rfl,h⟩
theorem ZiJ {j pos}:PE X (.Constant .none j pos) (tC .non):=λ_ _ _ H _ I h=>Constant_none ⟨.non,H,I,rfl,h⟩
theorem Zaa {x j pos}:PE X (.Constant (.str x) j pos) (tC (.str x)):=λ_ _ _ H _ I h=>Calls.Constant_str ⟨.str x,H,I.tok _,⟨_,rfl⟩,h⟩
noncomputable def Gl (X:Cx) (x:Str):Prop:=X.env.kindOf x=some .globalImplicit
theorem Zfc {E:Value->Shared->Prop}{pins:List (Addr×Obj)}{s:Shared}{σ:St}{H:Hp}{x:Str}{u:Value}{pos:Pos}{Q:Value->Shared->Prop} (I:Inv X pins σ H s) (hg:Gl X x) (hm:X.mg x=some u) (h:Q u s)
  (hd:(x==("__debug__":Str))=false:=by decide):wpAny (model X.prog X.w) X.A (eval (.Name x pos) X.env) Q E s :=
 Calls.Name_function_global I.ok.kind hg (Calls.loadGlobal_global (by rw[I.ok.glob];exact I.mod.glob.keeps I.bk) hm h) hd
theorem Zdq {E:Value->Shared->Prop}{pins:List (Addr×Obj)}{s:Shared}{σ:St}{H:Hp}{x:Str}{u:Value}{pos:Pos}{Q:Value->Shared->Prop} (I:Inv X pins σ H s) (hg:Gl X x) (hm:X.mg x=none) (hv:bootBuiltins x=some u) (h:Q u s)
  (hn:x≠"__name__":=by decide) (hd:(x==("__debug__":Str))=false:=by decide):wpAny (model X.prog X.w) X.A (eval (.Name x pos) X.env) Q E s:=by
 obtain⟨mb,h1,h2⟩:=I.mod.blt
 exact Calls.Name_function_global I.ok.kind hg (Calls.loadGlobal_builtin (by rw[I.ok.glob];exact I.mod.glob.keeps I.bk) hm (by rw[I.ok.blt];exact h1.keeps I.bk) ((h2 x hn).trans hv) h) hd
theorem Zfd {x:Str}{v:V}{u:Value}{pos:Pos} (hg:Gl X x) (hm:X.mg x=some u) (r:RelV v u) (hd:(x==("__debug__":Str))=false:=by decide):PE X (.Name x pos) (tC v) :=
 λ_ _ _ H _ I h=>Zfc I hg hm ⟨v,H,I,r,h⟩ hd
theorem Zjs {x:Str}{v:V}{u:Value}{pos:Pos} (hg:Gl X x) (hm:X.mg x=none) (hv:bootBuiltins x=some u) (r:RelV v u) (hn:x≠"__name__":=by decide) (hd:(x==("__debug__":Str))=false:=by decide):PE X (.Name x pos) (tC v) :=
 λ_ _ _ H _ I h=>Zdq I hg hm hv ⟨v,H,I,r,h⟩ hn hd
variable {a b:Expr}{ta tb:TE}{pos:Pos}
noncomputable def tB (t:TE):TT:=fun σ H Q=>t σ H λx H1=>∃c,x=.bl c/\Q c H1
theorem Zej {e:Expr}{t:TE} (h:PE X e t) (he:∀whole,isTrue e X.env whole=(do let v <-whole;standAt e.pos;holding [v] (truthy v)):=by intro _;rfl):PT X e (tB t):=by
 intro pins s σ H Q I hw
 refine isTrue_plain (thn (h pins s σ H _ I hw) λv s1 ⟨x,H1,I1,r1,q1⟩=>?_) (he _)
 obtain⟨d,rfl,q⟩:=q1
 cases r1
 exact wpAny_truthy_bool ⟨H1,I1,q⟩
variable {tA tB':TT}{rest:List Expr}
noncomputable def tAnd (t u:TT):TT:=fun σ H Q=>t σ H λc H1=>if c=true then u σ H1 Q else Q false H1
noncomputable def tOr (t u:TT):TT:=fun σ H Q=>t σ H λc H1=>if c=true then Q true H1 else u σ H1 Q
noncomputable def tNot (t:TT):TT:=fun σ H Q=>t σ H λc H1=>Q (!c) H1
theorem Zg9 (ha:PT X a tA):PW X (.BoolOp .And [a] pos) tA:=by
 intro wh pins s σ H Q I h
 refine isTrue_and (thn (ha pins s σ H Q I h) λc s1 e=>?_)
 cases c with
 |true=>exact isTrue_and_nil e
 |false=>exact e
theorem Zfn (ha:PT X a tA):PW X (.BoolOp .Or [a] pos) tA:=by
 intro wh pins s σ H Q I h
 refine isTrue_or (thn (ha pins s σ H Q I h) λc s1 e=>?_)
 cases c with
 |false=>exact isTrue_or_nil e
 |true=>exact e
theorem ZiK (ha:PT X a tA) (hb:PW X (.BoolOp .And (b::rest) pos) tB'):PW X (.BoolOp .And (a::b::rest) pos) (tAnd tA tB'):=by
 intro wh pins s σ H Q I h
 refine isTrue_and (thn (ha pins s σ H _ I h) λc s1 ⟨H1,I1,q1⟩=>?_)
 cases c with
 |true=>exact hb wh pins s1 σ H1 Q I1 q1
 |false=>exact⟨H1,I1,q1⟩
theorem Zgu (ha:PT X a tA) (hb:PW X (.BoolOp .Or (b::rest) pos) tB'):PW X (.BoolOp .Or (a::b::rest) pos) (tOr tA tB'):=by
 intro wh pins s σ H Q I h
 refine isTrue_or (thn (ha pins s σ H _ I h) λc s1 ⟨H1,I1,q1⟩=>?_)
 cases c with
 |true=>exact⟨H1,I1,q1⟩
 |false=>exact hb wh pins s1 σ H1 Q I1 q1
theorem Zek (ha:PT X a tA):PT X (.UnaryOp .Not a pos) (tNot tA):=by
 intro pins s σ H Q I h
 exact isTrue_not (ha pins s σ H (λc H1=>Q (!c) H1) I h)
end
noncomputable def SqL (K:PySem.W.Frag) (H:Hp) (a:Addr) (xs:List V):Prop :=
 Rd H a (.lst xs) \/
  ∃(o:Obj) (its:Array Value) (n:Nat),K.lookup a=some o/\o.cls=.type "list"/\o.dict=none/\o.data=.seq its n/\its.size<=sizeLine/\Vals xs its.toList
noncomputable def SqT (K:PySem.W.Frag) (H:Hp) (a:Addr) (xs:List V):Prop :=
 Rd H a (.tup xs) \/
  ∃(o:Obj) (its:Array Value) (n:Nat),K.lookup a=some o/\o.cls=.type "tuple"/\o.data=.seq its n/\its.size<=sizeLine/\Vals xs its.toList
noncomputable def absV:Value->Option V
 |.none=>some .non
 |.bool b=>some (.bl b)
 |.int i _=>some (.int i)
 |.str x _=>some (.str x)
 |.bytes b _=>some (.byt b)
 |.float b _=>some (.flt b)
 |.ref a=>some (.ref a)
 |.type n=>some (.ty n)
 |_=>none
theorem RelV.abs {x:V}{u:Value} (r:RelV x u):absV u=some x:=by
 cases x with
 |non=>cases r;rfl
 |bl _=>cases r;rfl
 |int _=>obtain⟨t,rfl⟩:=r;rfl
 |str _=>obtain⟨t,rfl⟩:=r;rfl
 |byt _=>obtain⟨t,rfl⟩:=r;rfl
 |flt _=>obtain⟨t,rfl⟩:=r;rfl
 |ref _=>cases r;rfl
 |ty _=>cases r;rfl
theorem RelV.inj {x y:V}{u:Value} (r:RelV x u) (q:RelV y u):x=y:=YA (r.abs.symm.trans q.abs)
theorem Vals.inj:∀{xs ys:List V}{us:List Value},Vals xs us->Vals ys us->xs=ys
 |_,_,_,.nil,.nil=>rfl
 |_,_,_,.cons r t,.cons r' t'=>by rw[r.inj r',Vals.inj t t']
section
variable {X:Cx}{pins:List (Addr×Obj)}{σ:St}{H:Hp}{s:Shared}{a:Addr}{xs ys:List V}
theorem SqL.of {K:PySem.W.Frag} (h:H a=some (.lst xs)):SqL K H a xs:=.inl (.inl h)
theorem SqT.of {K:PySem.W.Frag} (h:H a=some (.tup xs)):SqT K H a xs:=.inl (.inl h)
theorem Inv.list (I:Inv X pins σ H s) (h:SqL X.K H a xs):∃its:List Value,Vals xs its/\PlainL s.heap a its.toArray/\xs.length<=sizeLine:=by
 rcases h with h|⟨o,its,n,hk,hc,hd,hs,hz,r⟩
 ·obtain⟨z,its,n,r,e⟩:=h.ok I.hok
  exact⟨its,r,⟨_,n,e,rfl,rfl,rfl⟩,z⟩
 ·refine⟨its.toList,r,⟨o,n,I.kIn a o hk,hc,hd,by simpa using hs⟩,?_⟩
  have e:=r.length
  simp only[Yk]at e
  omega
theorem Inv.tuple (I:Inv X pins σ H s) (h:SqT X.K H a xs):∃its:List Value,Vals xs its/\IsTup s.heap a its.toArray/\xs.length<=sizeLine:=by
 rcases h with h|⟨o,its,n,hk,hc,hs,hz,r⟩
 ·obtain⟨z,its,r,p⟩:=h.ok I.hok
  exact⟨its,r,p,z⟩
 ·refine⟨its.toList,r,⟨o,I.kIn a o hk,hc,n,by simpa using hs⟩,?_⟩
  have e:=r.length
  simp only[Yk]at e
  omega
theorem Inv.ZdP (I:Inv X pins σ H s) (h:SqL X.K H a xs) (h':SqL X.K H a ys):xs=ys:=by
 obtain⟨its,r,⟨o,n,e,_,_,d⟩,_⟩:=I.list h
 obtain⟨its',r',⟨o',n',e',_,_,d'⟩,_⟩:=I.list h'
 rw[e]at e';cases e'
 rw[d]at d'
 injection d' with d1 _
 have:its=its':=by simpa using congrArg Array.toList d1
 subst this
 exact r.inj r'
theorem Inv.Zel (I:Inv X pins σ H s) (h:SqT X.K H a xs) (h':SqT X.K H a ys):xs=ys:=by
 obtain⟨its,r,⟨o,e,_,n,d⟩,_⟩:=I.tuple h
 obtain⟨its',r',⟨o',e',_,n',d'⟩,_⟩:=I.tuple h'
 rw[e]at e';cases e'
 rw[d]at d'
 injection d' with d1 _
 have:its=its':=by simpa using congrArg Array.toList d1
 subst this
 exact r.inj r'
end
noncomputable abbrev Cx.Zgh (X:Cx) (E:Value->Shared->Prop):Cx:={X with xe:=E}
noncomputable abbrev Cx.nox (X:Cx):Cx:=X.Zgh λ_ _=>False
theorem Cx.Ok.Zgh {X:Cx} (ok:X.Ok) (E:Value->Shared->Prop):(X.Zgh E).Ok :=
 ⟨ok.mod,ok.kind,ok.glob,ok.blt,ok.above,ok.inj,ok.has,ok.cab,ok.hd,ok.frames,ok.stk,ok.exf,ok.bs,ok.bsz,ok.noex,ok.exfs,ok.funs,ok.frf⟩
theorem Cx.Ok.ZcA {X:Cx}{E:Value->Shared->Prop} (ok:(X.Zgh E).Ok):X.Ok :=
 ⟨ok.mod,ok.kind,ok.glob,ok.blt,ok.above,ok.inj,ok.has,ok.cab,ok.hd,ok.frames,ok.stk,ok.exf,ok.bs,ok.bsz,ok.noex,ok.exfs,ok.funs,ok.frf⟩
section
variable {X:Cx}{pins:List (Addr×Obj)}{σ:St}{H:Hp}{s:Shared}{E:Value->Shared->Prop}
theorem Inv.Zgh (I:Inv X pins σ H s) (E:Value->Shared->Prop):Inv (X.Zgh E) pins σ H s:=⟨I.ok.Zgh E,I.os,I.bare,I.base,I.loc,I.cell,I.free,I.freeC,I.pin,I.hok,I.len⟩
theorem Inv.ZcA (I:Inv (X.Zgh E) pins σ H s):Inv X pins σ H s:=⟨I.ok.ZcA,I.os,I.bare,I.base,I.loc,I.cell,I.free,I.freeC,I.pin,I.hok,I.len⟩
theorem SP.ZcA {D:Ends}{f:Flow}{s':Shared} (h:SP (X.Zgh E) pins D f s'):SP X pins D f s':=by
 cases f with
 |next=>obtain⟨σ',H',I,q⟩:=h;exact⟨σ',H',I.ZcA,q⟩
 |brk=>obtain⟨σ',H',I,q⟩:=h;exact⟨σ',H',I.ZcA,q⟩
 |cont=>obtain⟨σ',H',I,q⟩:=h;exact⟨σ',H',I.ZcA,q⟩
 |ret u=>obtain⟨v,σ',H',I,r,q⟩:=h;exact⟨v,σ',H',I.ZcA,r,q⟩
end
section
variable {X:Cx}{st:Stmt}{rest:List Stmt}{t u:TS}{e:Expr}{te:TE}{pos:Pos}
noncomputable def tNext:TS:=λD σ H=>D.nx σ H
noncomputable def tSeq (t u:TS):TS:=λD σ H=>t {D with nx:=u D} σ H
theorem ZK:PSs X [] tNext:=λ_ _ σ H _ I h=>wpAny_execs_nil ⟨σ,H,I,h⟩
theorem Zc (h1:PS X st t) (h2:PSs X rest u):PSs X (st::rest) (tSeq t u):=by
 intro pins s σ H D I h
 refine wpAny_execs_cons (thn (h1 pins s σ H {D with nx:=u D} I h) λf s1 q=>?_)
 cases f with
 |next =>
  obtain⟨σ',H',I',q⟩:=q
  exact h2 pins s1 σ' H' D I' q
 |ret v=>exact q
 |brk=>exact q
 |cont=>exact q
theorem Ze (h1:PS X st t):PSs X [st] t:=by
 intro pins s σ H D I h
 refine wpAny_execs_cons (thn (h1 pins s σ H D I h) λf s1 q=>?_)
 cases f with
 |next=>exact wpAny_execs_nil q
 |ret v=>exact q
 |brk=>exact q
 |cont=>exact q
theorem Inv.quiet {pins:List (Addr×Obj)}{σ:St}{H:Hp}{s:Shared} (I:Inv X pins σ H s):interactive X.env=false:=by simp[interactive,I.ok.kind]
noncomputable def tDrop (te:TE):TS:=λD σ H=>te σ H λ_ H1=>D.nx σ H1
theorem Zae (he:PE X e te) (hs:swapsWith e none pos.line X.env=pure false:=by rfl):PS X (.Expr e pos) (tDrop te):=by
 intro pins s σ H D I h
 exact wpAny_Expr_any (thn (he pins s σ H _ I h) λv s1 ⟨x,H1,I1,r1,q1⟩=>⟨σ,H1,I1,q1⟩) I.quiet hs
noncomputable def tRet (te:TE):TS:=λD σ H=>te σ H D.rt
theorem ZA (he:PE X e te):PS X (.Return (some e) pos) (tRet te):=by
 intro pins s σ H D I h
 exact wpAny_Return_some (thn (he pins s σ H _ I h) λv s1 ⟨x,H1,I1,r1,q1⟩=>⟨x,σ,H1,I1,r1,q1⟩)
noncomputable def tIfS (c:TT) (t u:TS):TS:=λD σ H=>c σ H λb H1=>if b=true then t D σ H1 else u D σ H1
theorem Zaj {c:Expr}{a b:List Stmt}{tc:TT} (hc:PT X c tc) (ha:PSs X a t) (hb:PSs X b u):PS X (.If c a b pos) (tIfS tc t u):=by
 intro pins s σ H D I h
 refine wpAny_If (thn (hc pins s σ H _ I h) λd s1 ⟨H1,I1,q1⟩=>?_)
 cases d with
 |true=>exact ha pins s1 σ H1 D I1 q1
 |false=>exact hb pins s1 σ H1 D I1 q1
end
noncomputable abbrev TG:=V->St->Hp->(St->Hp->Prop)->Prop
noncomputable abbrev TGs:=List V->St->Hp->(St->Hp->Prop)->Prop
noncomputable def PG (X:Cx) (target:Expr) (t:TG):Prop :=
 ∀(pins:List (Addr×Obj)) (s:Shared) (σ:St) (H:Hp) (v:V) (u:Value) (Q:St->Hp->Prop),Inv X pins σ H s->RelV v u->t v σ H Q ->
  wpAny (model X.prog X.w) X.A (assign target X.env u) (λ_ s'=>∃σ' H',Inv X pins σ' H' s'/\Q σ' H') X.xe s
noncomputable def PGs (X:Cx) (ts:List Expr) (t:TGs):Prop :=
 ∀(pins:List (Addr×Obj)) (s:Shared) (σ:St) (H:Hp) (vs:List V) (us:List Value) (Q:St->Hp->Prop),Inv X pins σ H s->Vals vs us->t vs σ H Q ->
  wpAny (model X.prog X.w) X.A (assignInOrder ((assignEach ts X.env).map (·.2)) us) (λ_ s'=>∃σ' H',Inv X pins σ' H' s'/\Q σ' H') X.xe s
noncomputable abbrev TSet:=V->V->V->Hp->(Hp->Prop)->Prop
noncomputable def PSet (X:Cx) (t:TSet):Prop :=
 ∀(pins:List (Addr×Obj)) (s:Shared) (σ:St) (H:Hp) (o i v:V) (ov iv u:Value) (Q:Hp->Prop),Inv X pins σ H s->RelV o ov->RelV i iv->RelV v u->t o i v H Q ->
  wpAny (model X.prog X.w) X.A (setItem ov iv u) (λ_ s'=>∃H',Inv X pins σ H' s'/\Q H') X.xe s
noncomputable abbrev TIp:=V->V->Hp->VK->Prop
noncomputable def PIp (X:Cx) (op:Operator) (t:TIp):Prop :=
 ∀(pins:List (Addr×Obj)) (s:Shared) (σ:St) (H:Hp) (x y:V) (v u:Value) (Q:VK),Inv X pins σ H s->RelV x v->RelV y u->t x y H Q ->
  wpAny (model X.prog X.w) X.A (inplaceOp op v u) (EP X pins σ Q) X.xe s
section
variable {X:Cx}{pos:Pos}
noncomputable def gName (i:Nat):TG:=λv σ H Q=>Q (σ.set i (some v)) H
theorem Zq {i:Nat}{x:Str} (hN:X.N.Nodup) (hi:X.N[i]?=some x) (hx:Loc X.env.scope x) (hf:X.fn x=true\/X.env.scope.names.lookup x=some .local:=by first|exact .inl rfl|exact .inr rfl|assumption):PG X (.Name x pos) (gName i):=by
 intro pins s σ H v u Q I r h
 exact wpAny_assign_Name (Zfl I hN hi hx r (λs' I'=>⟨_,H,I',h⟩) hf)
noncomputable def gNil:TGs:=λvs σ H Q=>vs=[]/\Q σ H
noncomputable def gCons (t:TG) (u:TGs):TGs:=λvs σ H Q=>∃v r,vs=v::r/\t v σ H fun σ' H'=>u r σ' H' Q
theorem Zha:PGs X [] gNil:=by
 intro pins s σ H vs us Q I r h
 obtain⟨e,h⟩:=h
 subst e
 cases r
 exact assignInOrder_nil ⟨σ,H,I,h⟩
theorem ZbX {e:Expr}{es:List Expr}{t:TG}{u:TGs} (h1:PG X e t) (h2:PGs X es u)
  (hs:(assignEach (e::es) X.env).map (·.2)=assign e X.env::(assignEach es X.env).map (·.2):=by rfl):PGs X (e::es) (gCons t u):=by
 intro pins s σ H vs us Q I r h
 obtain⟨v,vr,e1,h⟩:=h
 subst e1
 cases r with
 |cons r rr =>
  rw[hs]
  refine assignInOrder_cons (thn (h1 pins s σ H _ _ _ I r h) λ_ s1 ⟨σ1,H1,I1,q1⟩=>?_)
  exact h2 pins s1 σ1 H1 _ _ Q I1 rr q1
noncomputable def gTup (K:PySem.W.Frag) (n:Nat) (t:TGs):TG:=λv σ H Q=>∃a xs,v=.ref a/\SqT K H a xs/\xs.length=n/\t xs σ H Q
theorem ZiL {es:List Expr}{k:Nat}{t:TGs}{n:Nat} (hc:X.calm=true) (h:PGs X es t)
  (hn:(assignEach es X.env).length=n:=by rfl) (hst:(assignEach es X.env).findIdx? (·.1)=none:=by rfl):PG X (.Tuple es k pos) (gTup X.K n t):=by
 intro pins s σ H v u Q I r hw
 obtain⟨a,xs,e1,hq,hl,hw⟩:=hw
 subst e1
 cases r
 obtain⟨its,rv,ht,hz⟩:=I.tuple hq
 refine assign_Tuple_tuple (I.ok.hd hc) ht (by simp[hn,<-hl,rv.length]) hst λh' hx=>?_
 have I1:Inv X pins σ H {s with heap:=h'}:=I.kept (t':=s.toks) λb o e=>hx b o (Yl (Yi e)) e
 exact h pins _ σ H xs _ Q I1 (by simpa using rv) hw
noncomputable def gSub (to ti:TE) (t:TSet):TG:=λv σ H Q=>to σ H λo H1=>ti σ H1 λi H2=>t o i v H2 λH3=>Q σ H3
theorem ZiM {o i:Expr}{to ti:TE}{t:TSet} (ho:PE X o to) (hi:PE X i ti) (hs:PSet X t)
  (ha:∀v,assign (.Subscript o i pos) X.env v=(do
   let ov <-holding [v] (eval o X.env)
   let iv <-holding [v,ov] (eval i X.env)
   standAt pos
   holding [v,ov,iv] (setItem ov iv v)
   release [v,ov,iv] []):=by intro _;rfl):PG X (.Subscript o i pos) (gSub to ti t):=by
 intro pins s σ H v u Q I r h
 rw[ha]
 refine Ya (YH (thn (ho pins s σ H _ I h) λov s1 ⟨x,H1,I1,r1,q1⟩=>?_))
 refine Ya (YH (thn (hi pins s1 σ H1 _ I1 q1) λiv s2 ⟨y,H2,I2,r2,q2⟩=>?_))
 refine Ya (wpAny_standAt (Ya (YH (thn (hs pins s2 σ H2 x y v ov iv u _ I2 r1 r2 r q2) λ_ s3 ⟨H3,I3,q3⟩=>?_))))
 exact wpAny_release ⟨σ,H3,I3,q3⟩
noncomputable def tAsg (te:TE) (g:TG):TS:=λD σ H=>te σ H λx H1=>g x σ H1 D.nx
theorem ZiN {tg e:Expr}{te:TE}{g:TG} (he:PE X e te) (hg:PG X tg g) (hs:swapsWithSole [tg] e pos.line X.env=pure false:=by rfl) (hw:swappedStores [tg] e X.env=pure none:=by rfl)
  (h1:(assignEach [tg] X.env).map (·.2)=[assign tg X.env]:=by rfl):PS X (.Assign [tg] e pos) (tAsg te g):=by
 intro pins s σ H D I h
 refine wpAny_Assign_stores (thn (he pins s σ H _ I h) λv s1 ⟨x,H1,I1,r1,q1⟩=>?_) hs hw
 rw[h1]
 exact thn (hg pins s1 σ H1 x v _ I1 r1 q1) λ_ s2 q=>q
theorem Zl {i:Nat}{x:Str}{e:Expr}{te:TE}{pos':Pos} (hN:X.N.Nodup) (hi:X.N[i]?=some x) (hx:Loc X.env.scope x) (he:PE X e te) (hs:swapsWith e (some (.Name x pos')) pos.line X.env=pure false:=by rfl) (hf:X.fn x=true\/X.env.scope.names.lookup x=some .local:=by first|exact .inl rfl|exact .inr rfl|assumption) :
  PS X (.Assign [.Name x pos'] e pos) (tAsg te (gName i)):=by
 intro pins s σ H D I h
 refine wpAny_Assign_Name (thn (he pins s σ H _ I h) λv s1 ⟨y,H1,I1,r1,q1⟩=>?_) hs
 exact Zfl I1 hN hi hx r1 (λs2 I2=>⟨_,H1,I2,q1⟩) hf
noncomputable def tAug (i:Nat) (te:TE) (ti:TIp):TS:=λD σ H=>∃x,σ[i]?=some (some x)/\te σ H λy H1=>ti x y H1 λz H2=>D.nx (σ.set i (some z)) H2
theorem Zle {i:Nat}{x:Str}{e:Expr}{te:TE}{op:Operator}{ti:TIp}{pos':Pos} (hN:X.N.Nodup) (hi:X.N[i]?=some x) (hx:Loc X.env.scope x) (he:PE X e te) (ho:PIp X op ti) (hf:X.fn x=true\/X.env.scope.names.lookup x=some .local:=by first|exact .inl rfl|exact .inr rfl|assumption) :
  PS X (.AugAssign (.Name x pos') op e pos) (tAug i te ti):=by
 intro pins s σ H D I h
 obtain⟨v,e1,h⟩:=h
 obtain⟨m,hn,hl⟩:=I.loc
 have vis:Vis X.env.scope x:=by rcases hx with k|k;exact .inl k;exact .inr (.inl k)
 obtain⟨u,r,l⟩:=hl i x v hi e1 vis
 refine wpAny_AugAssign_Name ?_
 have go:wpAny (model X.prog X.w) X.A (eval e X.env) (λw s₂=>wpAny (model X.prog X.w) X.A (inplaceOp op u w) (λr s₃=>wpAny (model X.prog X.w) X.A (storeName X.env x r) (λ_=>SP X pins D .next) X.xe s₃) X.xe s₂) X.xe s:=by
  refine thn (he pins s σ H _ I h) λw s1 ⟨y,H1,I1,r1,q1⟩=>?_
  refine thn (ho pins s1 σ H1 v y u w _ I1 r r1 q1) λz s2 ⟨zv,H2,I2,r2,q2⟩=>?_
  exact Zfl I2 hN hi hx r2 (λs3 I3=>⟨_,H2,I3,q2⟩) hf
 rcases l with⟨hk,hm⟩|⟨hk,c,hc,hcell⟩
 ·exact wpAny_loadName_local I.ok.kind hk hn hm go
 ·rcases hk with hk|hk
  ·exact wpAny_loadName_cell I.ok.kind hk hc hcell go
  ·rcases hx with k|k
   ·have:X.env.scope.names.lookup x=some .free:=hk
    rw[k]at this;cases this
   ·have:X.env.scope.names.lookup x=some .free:=hk
    rw[k]at this;cases this
noncomputable def tAugS (to ti te:TE) (tget:V->V->Hp->VK->Prop) (tip:TIp) (tset:TSet):TS:=λD σ H=>to σ H λo H1=>ti σ H1 λi H2=>tget o i H2 λx H3=>te σ H3 λy H4=>tip x y H4 λz H5=>tset o i z H5 λH6=>D.nx σ H6
noncomputable def PGet (X:Cx) (t:V->V->Hp->VK->Prop):Prop :=
 ∀(pins:List (Addr×Obj)) (s:Shared) (σ:St) (H:Hp) (o i:V) (ov iv:Value) (Q:VK),Inv X pins σ H s->RelV o ov->RelV i iv->t o i H Q ->
  wpAny (model X.prog X.w) X.A (getItem ov iv) (EP X pins σ Q) X.xe s
theorem ZmL {o i e:Expr}{to ti te:TE}{tget:V->V->Hp->VK->Prop}{tip:TIp}{tset:TSet}{op:Operator}{tpos:Pos} (ho:PE X o to) (hi:PE X i ti) (hg:PGet X tget) (he:PE X e te) (hp:PIp X op tip) (hs:PSet X tset)
  (ha:∀ov iv new,augStore i ov iv new=(do holding [new,ov,iv] (setItem ov iv new);release [new,ov,iv] [];pure .next):=by intros;rfl):PS X (.AugAssign (.Subscript o i tpos) op e pos) (tAugS to ti te tget tip tset):=by
 intro pins s σ H D I h
 refine wpAny_AugAssign_SubscriptAny (thn (ho pins s σ H _ I h) λov s1 ⟨x1,H1,I1,r1,q1⟩=>?_) ha
 refine thn (hi pins s1 σ H1 _ I1 q1) λiv s2 ⟨x2,H2,I2,r2,q2⟩=>?_
 refine thn (hg pins s2 σ H2 x1 x2 ov iv _ I2 r1 r2 q2) λold s3 ⟨x3,H3,I3,r3,q3⟩=>?_
 refine thn (he pins s3 σ H3 _ I3 q3) λv s4 ⟨x4,H4,I4,r4,q4⟩=>?_
 refine thn (hp pins s4 σ H4 x3 x4 old v _ I4 r3 r4 q4) λnew s5 ⟨x5,H5,I5,r5,q5⟩=>?_
 exact thn (hs pins s5 σ H5 x1 x2 x5 ov iv new _ I5 r1 r2 r5 q5) λ_ s6 ⟨H6,I6,q6⟩=>⟨σ,H6,I6,q6⟩
noncomputable def ipI (f:Int->Int->Int):TIp:=λx y H Q=>∃i j,x=.int i/\y=.int j/\Q (.int (f i j)) H
theorem Zlf:PIp X .Add (ipI λi j=>i+j):=by
 intro pins s σ H x y v u Q I r1 r2 h
 obtain⟨i,j,e1,e2,q⟩:=h
 subst e1;subst e2
 obtain⟨t,rfl⟩:=r1
 obtain⟨t',rfl⟩:=r2
 exact iadd_int ⟨.int _,H,I.tok _,⟨_,rfl⟩,q⟩
theorem ip_sub:PIp X .Sub (ipI λi j=>i-j):=by
 intro pins s σ H x y v u Q I r1 r2 h
 obtain⟨i,j,e1,e2,q⟩:=h
 subst e1;subst e2
 obtain⟨t,rfl⟩:=r1
 obtain⟨t',rfl⟩:=r2
 exact isub_int ⟨.int _,H,I.tok _,⟨_,rfl⟩,q⟩
end
section
variable {X:Cx}{pos:Pos}
noncomputable def ZiO (c:TT) (tb:TS):TS:=λD σ H=>∃W:Nat->St->Hp->Prop,(∃m,W m σ H)/\∀m σ H,W m σ H ->
 c σ H λb H1=>if b=true then ∃N:St->Hp->Prop,(∀σ' H',N σ' H'->∃m',m'<m/\W m' σ' H')/\tb {D with nx:=N,ct:=N,bk:=D.nx} σ H1 else D.nx σ H1
theorem Zfo {c:Expr}{body:List Stmt}{tc:TT}{tb:TS} (hp:PassesOwn (model X.prog X.w) X.A X.env X.xe) (hc:PT X c tc) (hb:PSs X body tb):PS X (.While c body [] pos) (ZiO tc tb):=by
 intro pins s σ H D I h
 obtain⟨W,⟨m0,w0⟩,turn⟩:=h
 refine wpAny_While (codeAny_whileLoop (λn s'=>∃σ' H',Inv X pins σ' H' s'/\W n σ' H') ?_ m0 ⟨σ,H,I,w0⟩)
 rintro n s1 ⟨σ1,H1,I1,w1⟩
 refine wpAny_passesOwn hp (thn (hc pins s1 σ1 H1 _ I1 (turn n σ1 H1 w1)) λb s2 ⟨H2,I2,q2⟩=>?_)
 cases b with
 |true =>
  obtain⟨N,hN,q2⟩:=q2
  rw[Yc rfl]
  refine wpAny_passesOwn hp (thn (hb pins s2 σ1 H2 _ I2 q2) λf s3 q3=>?_)
  cases f with
  |next =>
   obtain⟨σ3,H3,I3,n3⟩:=q3
   obtain⟨m',hm,w3⟩:=hN σ3 H3 n3
   exact⟨m',hm,σ3,H3,I3,w3⟩
  |cont =>
   obtain⟨σ3,H3,I3,n3⟩:=q3
   obtain⟨m',hm,w3⟩:=hN σ3 H3 n3
   exact⟨m',hm,σ3,H3,I3,w3⟩
  |brk=>exact q3
  |ret v=>exact q3
 |false =>
  rw[Yb Yx]
  exact wpAny_execs_nil ⟨σ1,H2,I2,q2⟩
end
structure It where
 go:Nat->Hp->Prop
 yld:Nat->Hp->V->Hp->Prop
 stop:Nat->Hp->Prop
noncomputable def FpOk (X:Cx) (pins:List (Addr×Obj)) (H:Hp) (b:Addr):Prop :=
 H b=none/\b≠X.env.locals/\b∉X.fs/\(b∈X.ex\/X.s₀.heap.objs.size<=b)/\(∀x c,X.env.cells.lookup x=some c->c≠b)/\∀p∈X.pn++pins,p.1≠b
theorem Inv.fpOk {X:Cx}{pins:List (Addr×Obj)}{σ:St}{H H':Hp}{s:Shared}{b:Addr} (I:Inv X pins σ H s) (hb:s.heap.objs.size<=b) (hn:H' b=none):FpOk X pins H' b:=by
 refine⟨hn,Nat.ne_of_gt (Yt I.lt hb),I.nofs hb,.inr (Yn I.sz hb),λx c e z=>?_,λp hp z=>?_⟩
 ·obtain⟨v,q⟩:=I.cell x c e
  exact absurd (Yt q.lt (by rw[z];exact hb)) (YG _)
 ·exact absurd (Yt (Yi (I.pin p hp).1) (by rw[z];exact hb)) (YG _)
structure Turn (P:Program) (w:World) (K:PySem.W.Frag) (tg:Expr) (J:It) (fp:List Addr) (it:Addr) (tn:Nat->Heap->Prop):Prop where
 mem:it∈fp
 obj:∀i h,tn i h->∀b∈fp,∃o,h.get? b=some o/\∀v,o.data≠.cell v
 keep:∀i h h',tn i h->(∀b∈fp,∀o,h.get? b=some o->h'.get? b=some o)->tn i h'
 item:∀(X:Cx),X.prog=P->X.w=w->X.K=K->X.calm=true->∀(i:Nat) (pins:List (Addr×Obj)) (s:Shared) (σ:St) (H:Hp) (E:Value->Shared->Prop),Inv X pins σ H s->(∀b∈fp,FpOk X pins H b)->tn i s.heap->J.go i H ->
  wpAny (model P w) X.A (pyNext (.ref it)) (λr s1=>∃u,r=some u /\
   wpAny (model P w) X.A (letOwnedTupleGo tg (.ref it) u) (λ_ s2=>∃x H',Inv X pins σ H' s2/\RelV x u/\J.yld i H x H'/\tn (i+1) s2.heap/\∀b∈fp,H' b=none) E s1) E s
 done:∀(X:Cx),X.prog=P->X.w=w->X.K=K->X.calm=true->∀(i:Nat) (pins:List (Addr×Obj)) (s:Shared) (σ:St) (H:Hp) (E:Value->Shared->Prop),Inv X pins σ H s->(∀b∈fp,FpOk X pins H b)->tn i s.heap->J.stop i H ->
  wpAny (model P w) X.A (pyNext (.ref it)) (λr s1=>r=none/\Inv X pins σ H s1) E s
 self:∀(A:Around) (i:Nat) (s:Shared) (Q:Value->Shared->Prop) (E:Value->Shared->Prop),tn i s.heap->Q (.ref it) s->wpAny (model P w) A (pyIter (.ref it)) Q E s
noncomputable abbrev TI:=St->Hp->(It->Hp->Prop)->Prop
noncomputable def PIE (X:Cx) (pins:List (Addr×Obj)) (σ:St) (tg:Expr) (R:It->Hp->Prop) (itv:Value) (s2:Shared):Prop :=
 ∃(it:Addr) (fp:List Addr) (tn:Nat->Heap->Prop) (J:It) (H':Hp),itv=.ref it/\Inv X pins σ H' s2/\Turn X.prog X.w X.K tg J fp it tn/\tn 0 s2.heap/\(∀b∈fp,FpOk X pins H' b)/\R J H'
noncomputable def PI (X:Cx) (tg iter:Expr) (wi:TI):Prop :=
 ∀(pins:List (Addr×Obj)) (s:Shared) (σ:St) (H:Hp) (R:It->Hp->Prop),Inv X pins σ H s->wi σ H R ->
  wpAny (model X.prog X.w) X.A (eval iter X.env) (λv s1=>wpAny (model X.prog X.w) X.A (pyIter v) (PIE X pins σ tg R) X.xe s1) X.xe s
theorem Zjt {M : Model} {A : Around} {E : Value → Shared → Prop} {s : Shared} {tg : Expr} {it : Addr} {u : Value} {o : Obj} {n : String} {vs : Array Value} {Q : Unit → Shared → Prop} (ho : s.heap.get? it = some o) (hc : o.cls = .type n) (hd : o.data = .fields vs)
    (hn : ["enumerate", "zip", "dict_itemiterator", "dict_reverseitemiterator", "odict_iterator", "itertools.zip_longest", "itertools.pairwise"].contains n = false) (hQ : Q () s) : wpAny M A (letOwnedTupleGo tg (.ref it) u) Q E s := by
  unfold letOwnedTupleGo
  cases tg <;> first
    | exact Ye hQ
    | (cases u <;> first
        | exact Ye hQ
        | (refine Ya (wpAny_load ho ?_)
           rw [hc, hd]
           show wpAny M A (if (["enumerate", "zip", "dict_itemiterator", "dict_reverseitemiterator", "odict_iterator", "itertools.zip_longest", "itertools.pairwise"].contains n && vs[0]? == some (rawInt _)) = true then _ else _) Q E s
           rw [Yb (by intro h; rw [hn, Bool.false_and] at h; cases h)]
           exact Ye hQ))
noncomputable def Itl (K:PySem.W.Frag) (a:Addr):It :=
 ⟨λi H=>∃xs x,SqL K H a xs/\xs[i]?=some x,λi H x H'=>H'=H/\∀xs,SqL K H a xs->xs[i]?=some x,λi H=>∃xs,SqL K H a xs/\xs.length<=i⟩
noncomputable def Itt (K:PySem.W.Frag) (a:Addr):It :=
 ⟨λi H=>∃xs x,SqT K H a xs/\xs[i]?=some x,λi H x H'=>H'=H/\∀xs,SqT K H a xs->xs[i]?=some x,λi H=>∃xs,SqT K H a xs/\xs.length<=i⟩
noncomputable def Itr (lo:Int) (n:Nat):It:=⟨λi _=>i<n,λi H x H'=>H'=H/\x=.int (lo+i),λi _=>n<=i⟩
theorem Zj3 {P:Program}{w:World}{K:PySem.W.Frag}{tg:Expr} (a it:Addr):Turn P w K tg (Itl K a) [it] it (λi h=>h.IsListIter it a i) where
 mem:=by simp
 obj:=λi h st b hb=>by
  have e:b=it:=by simpa using hb
  subst e
  obtain⟨o,e,c,d⟩:=st
  exact⟨o,e,λv z=>by rw[d]at z;cases z⟩
 keep:=λi h h' st k=>st.at λo e=>k it (by simp) o e
 item:=by
  intro X hP hw hK hc i pins s σ H E I hf st hg
  subst hP hw hK
  obtain⟨xs,x,hq,hx⟩:=hg
  obtain⟨its,rv,p,hz⟩:=I.list hq
  obtain⟨u,hu,ru⟩:=rv.get hx
  obtain⟨f0,f1,f2,f3,f4,f5⟩:=hf it (by simp)
  refine wpAny_pyNext_list_item st p.isList (x:=u) (by simpa using hu) λh' st' sb=>?_
  have I1:Inv X pins σ H {s with heap:=h'}:=I.turned (t':=s.toks) (λb o hb e=>(sb.2 b hb).trans e) f0 f1 f3 f4 f5
  obtain⟨o,e,c,d⟩:=id st'
  exact⟨u,rfl,Zjt (s:={s with heap:=h'}) e c d (by decide) ⟨x,H,I1,ru,⟨rfl,λys hy=>by rw[I.ZdP hy hq];exact hx⟩,st',λb hb=>(hf b hb).1⟩⟩
 done:=by
  intro X hP hw hK hc i pins s σ H E I hf st hg
  subst hP hw hK
  obtain⟨xs,hq,hx⟩:=hg
  obtain⟨its,rv,p,hz⟩:=I.list hq
  obtain⟨f0,f1,f2,f3,f4,f5⟩:=hf it (by simp)
  have hl:=rv.length
  exact wpAny_pyNext_list_end (I.ok.hd hc) st p.isList (by simp;omega) λh' eb=>⟨rfl,I.turned (t':=s.toks) (λb o hb e=>eb b o hb e) f0 f1 f3 f4 f5⟩
 self:=λ_ _ _ _ _ st h=>wpAny_pyIter_listiter st h
theorem ZiP {P:Program}{w:World}{K:PySem.W.Frag}{tg:Expr} (a it:Addr):Turn P w K tg (Itt K a) [it] it (λi h=>h.IsTupleIter it a i) where
 mem:=by simp
 obj:=λi h st b hb=>by
  have e:b=it:=by simpa using hb
  subst e
  obtain⟨o,e,c,d⟩:=st
  exact⟨o,e,λv z=>by rw[d]at z;cases z⟩
 keep:=λi h h' st k=>st.at λo e=>k it (by simp) o e
 item:=by
  intro X hP hw hK hc i pins s σ H E I hf st hg
  subst hP hw hK
  obtain⟨xs,x,hq,hx⟩:=hg
  obtain⟨its,rv,p,hz⟩:=I.tuple hq
  obtain⟨u,hu,ru⟩:=rv.get hx
  obtain⟨f0,f1,f2,f3,f4,f5⟩:=hf it (by simp)
  refine wpAny_pyNext_tuple_item st (show s.heap.IsTuple a its.toArray from p) (x:=u) (by simpa using hu) λh' st' sb=>?_
  have I1:Inv X pins σ H {s with heap:=h'}:=I.turned (t':=s.toks) (λb o hb e=>(sb.2 b hb).trans e) f0 f1 f3 f4 f5
  obtain⟨o,e,c,d⟩:=id st'
  exact⟨u,rfl,Zjt (s:={s with heap:=h'}) e c d (by decide) ⟨x,H,I1,ru,⟨rfl,λys hy=>by rw[I.Zel hy hq];exact hx⟩,st',λb hb=>(hf b hb).1⟩⟩
 done:=by
  intro X hP hw hK hc i pins s σ H E I hf st hg
  subst hP hw hK
  obtain⟨xs,hq,hx⟩:=hg
  obtain⟨its,rv,p,hz⟩:=I.tuple hq
  obtain⟨f0,f1,f2,f3,f4,f5⟩:=hf it (by simp)
  have hl:=rv.length
  exact wpAny_pyNext_tuple_end (I.ok.hd hc) st (show s.heap.IsTuple a its.toArray from p) (by simp;omega) λh' eb=>⟨rfl,I.turned (t':=s.toks) (λb o hb e=>eb b o hb e) f0 f1 f3 f4 f5⟩
 self:=λ_ _ _ _ _ st h=>wpAny_pyIter_tupleiter st h
theorem ZiQ {P:Program}{w:World}{K:PySem.W.Frag}{tg:Expr} (it:Addr) (lo:Int) (n:Nat):Turn P w K tg (Itr lo n) [it] it (λi h=>IsRangeIter h it (lo+(i:Nat)*1) ((n:Int)-(i:Nat)) 1) where
 mem:=by simp
 obj:=λi h st b hb=>by
  have e:b=it:=by simpa using hb
  subst e
  exact⟨_,st,λv z=>by
   have z':Data.fields _=Data.cell v:=z
   cases z'⟩
 keep:=λi h h' st k=>k it (by simp) _ st
 item:=by
  intro X hP hw hK hc i pins s σ H E I hf st hg
  subst hP hw hK
  obtain⟨f0,f1,f2,f3,f4,f5⟩:=hf it (by simp)
  have W:=Walks.range (prog:=X.prog) (w:=X.w) (I.ok.hd hc) it lo 1 n
  refine W.item i s _ _ hg st λv h' tk hv st' kk=>?_
  obtain⟨t,rfl⟩:=hv
  have I1:Inv X pins σ H {s with heap:=h',toks:=tk}:=I.turned (λb o hb e=>kk b o (by simpa using hb) e) f0 f1 f3 f4 f5
  refine⟨_,rfl,Zjt (s:={s with heap:=h',toks:=tk}) (n:="range_iterator") st' rfl rfl (by decide) ⟨.int (lo+i),H,I1,⟨t,?_⟩,⟨rfl,rfl⟩,st',λb hb=>(hf b hb).1⟩⟩
  rw[Int.mul_one]
 done:=by
  intro X hP hw hK hc i pins s σ H E I hf st hg
  subst hP hw hK
  obtain⟨f0,f1,f2,f3,f4,f5⟩:=hf it (by simp)
  exact wpAny_pyNext_range_end (I.ok.hd hc) st (by have:n<=i:=hg;omega) λh' eb=>⟨rfl,I.turned (t':=s.toks) (λb o hb e=>eb b o hb e) f0 f1 f3 f4 f5⟩
 self:=λ_ _ _ _ _ st h=>wpAny_pyIter_rangeiter st h
section
variable {X:Cx}{tg:Expr}
noncomputable def iList (K:PySem.W.Frag) (tl:TE):TI:=fun σ H R=>tl σ H λx H1=>∃a,x=.ref a/\(∃xs,SqL K H1 a xs)/\R (Itl K a) H1
noncomputable def iTup (K:PySem.W.Frag) (tl:TE):TI:=fun σ H R=>tl σ H λx H1=>∃a,x=.ref a/\(∃xs,SqT K H1 a xs)/\R (Itt K a) H1
theorem Zbx {l:Expr}{tl:TE} (hl:PE X l tl):PI X tg l (iList X.K tl):=by
 intro pins s σ H R I h
 refine thn (hl pins s σ H _ I h) λv s1 ⟨x,H1,I1,r1,q1⟩=>?_
 obtain⟨a,e,⟨xs,hq⟩,q⟩:=q1
 subst e
 cases r1
 obtain⟨its,rv,p,hz⟩:=I1.list hq
 refine wpAny_pyIter_list p.isList ?_
 refine⟨s1.heap.objs.size,[s1.heap.objs.size],_,_,H1,rfl,I1.kept (t':=s1.toks) λb o e=>Ym _ e,Zj3 a _,⟨_,Yy _ rfl,rfl,rfl⟩,λb hb=>?_,q⟩
 have e:b=s1.heap.objs.size:=by simpa using hb
 subst e
 exact I1.fpOk (Yd _) (I1.hok.fresh (Yd _))
theorem Zlg {l:Expr}{tl:TE} (hl:PE X l tl):PI X tg l (iTup X.K tl):=by
 intro pins s σ H R I h
 refine thn (hl pins s σ H _ I h) λv s1 ⟨x,H1,I1,r1,q1⟩=>?_
 obtain⟨a,e,⟨xs,hq⟩,q⟩:=q1
 subst e
 cases r1
 obtain⟨its,rv,p,hz⟩:=I1.tuple hq
 refine wpAny_pyIter_tuple (show s1.heap.IsTuple a its.toArray from p) ?_
 refine⟨s1.heap.objs.size,[s1.heap.objs.size],_,_,H1,rfl,I1.kept (t':=s1.toks) λb o e=>Ym _ e,ZiP a _,⟨_,Yy _ rfl,rfl,rfl⟩,λb hb=>?_,q⟩
 have e:b=s1.heap.objs.size:=by simpa using hb
 subst e
 exact I1.fpOk (Yd _) (I1.hok.fresh (Yd _))
theorem Zlh {pins:List (Addr×Obj)}{σ:St}{H:Hp}{s:Shared}{R:It->Hp->Prop}{E:Value->Shared->Prop}{lo hi:Int}{t u v:Tok}{tk:Nat} (I:Inv X pins σ H s) (h1:-(2 ^ 62)<=lo) (h2:lo<2 ^ 62) (h3:-(2 ^ 62)<=hi) (h4:hi<2 ^ 62)
  (q:R (Itr lo (hi-lo).toNat) H):wpAny (model X.prog X.w) X.A (pyIter (.ref s.heap.objs.size)) (PIE X pins σ tg R) E {s with heap:=s.heap.push {cls:=.type "range",data:=.fields #[.int lo t,.int hi u,.int 1 v]},toks:=tk}:=by
 refine wpAny_pyIter_range (IsRange.new ..) (small_one h1 h2 h3 h4) ?_
 have I1:Inv X pins σ H {s with heap:=s.heap.push {cls:=.type "range",data:=.fields #[.int lo t,.int hi u,.int 1 v]},toks:=tk}:=I.kept λb o e=>Ym _ e
 refine⟨(s.heap.push {cls:=.type "range",data:=.fields #[.int lo t,.int hi u,.int 1 v]}).objs.size,[(s.heap.push {cls:=.type "range",data:=.fields #[.int lo t,.int hi u,.int 1 v]}).objs.size],_,_,H,rfl,
  I1.kept (t':=tk) λb o e=>Ym _ e,ZiQ _ lo (hi-lo).toNat,?_,λb hb=>?_,q⟩
 ·have e1:lo+((0:Nat):Int)*1=lo:=by simp
  have e2:(((hi-lo).toNat:Nat):Int)-((0:Nat):Int)=Builtin.Range.rangeSize lo hi 1:=by rw[rangeSize_one];split<;>omega
  show IsRangeIter _ _ (lo+((0:Nat):Int)*1) ((((hi-lo).toNat:Nat):Int)-((0:Nat):Int)) 1
  rw[e1,e2]
  exact Yy _ rfl
 ·have e:b=(s.heap.push {cls:=.type "range",data:=.fields #[.int lo t,.int hi u,.int 1 v]}).objs.size:=by simpa using hb
  subst e
  exact I1.fpOk (Yd _) (I1.hok.fresh (Yd _))
noncomputable def iRng1 (ta:TA):TI:=fun σ H R=>ta σ H λvs H1=>∃j:Int,vs=[.int j]/\-(2 ^ 62)<=j/\j<2 ^ 62/\R (Itr 0 j.toNat) H1
theorem ZF {a:Expr}{ta:TA}{p pos:Pos} (hg:Gl X "range") (hm:X.mg "range"=none) (ha:PA X [a] ta) (hs:starEach [a] X.env=[(false,eval a X.env)]:=by rfl):PI X tg (.Call (.Name "range" p) [a] [] pos) (iRng1 ta):=by
 intro pins s σ H R I h
 refine Call_ (Zdq I hg hm boot_range (PyProof.Rows.callWith_type1 (thn (ha pos pins s σ H _ I h) λus s1 ⟨vs,H1,I1,r1,q1⟩=>?_) hs rfl))
 obtain⟨j,e,q1,q2,q⟩:=q1
 subst e
 cases r1 with
 |cons r rr =>
  cases rr
  obtain⟨t,rfl⟩:=r
  exact call_range_1 (Zlh I1 (by omega) (by omega) q1 q2 (by simpa using q))
noncomputable def tFor (wi:TI) (g:TG) (tb:TS):TS:=λD σ H=>wi σ H λJ H1=>∃W:Nat->Nat->St->Hp->Prop,(∃m,W 0 m σ H1)/\∀i m σ H,W i m σ H ->
 (J.stop i H/\D.nx σ H)\/(J.go i H/\∃N:St->Hp->Prop,(∀σ' H',N σ' H'->∃m',m'<m/\W (i+1) m' σ' H')/\∀x H',J.yld i H x H'->g x σ H' fun σ2 H2=>tb {D with nx:=N,ct:=N,bk:=D.nx} σ2 H2)
noncomputable def ZcB (fp:List Addr) (h:Heap):List (Addr×Obj):=fp.filterMap λb=>(h.get? b).map λo=>(b,o)
theorem Zb3 {fp:List Addr}{h:Heap}{b:Addr}{o:Obj} (hb:b∈fp) (e:h.get? b=some o):(b,o)∈ZcB fp h:=List.mem_filterMap.mpr ⟨b,hb,by rw[e];rfl⟩
theorem Zgv {fp:List Addr}{h:Heap}{p:Addr×Obj} (hp:p∈ZcB fp h):p.1∈fp/\h.get? p.1=some p.2:=by
 obtain⟨b,hb,e⟩:=List.mem_filterMap.mp hp
 cases q:h.get? b with
 |none=>rw[q]at e;cases e
 |some o =>
  rw[q]at e
  have e':(b,o)=p:=YA e
  subst e'
  exact⟨hb,q⟩
theorem Inv.pinned {pins:List (Addr×Obj)}{σ:St}{H:Hp}{s:Shared}{fp:List Addr} (I:Inv X pins σ H s) (hf:∀b∈fp,FpOk X pins H b) (ho:∀b∈fp,∃o,s.heap.get? b=some o/\∀v,o.data≠.cell v):Inv X (pins++ZcB fp s.heap) σ H s :=
 I.ZdO λp hp=>(Ys.mp hp).elim (λz=>I.pin p (Yo _ z)) λz=>by
  obtain⟨hb,e⟩:=Zgv z
  obtain⟨f0,f1,f2,_⟩:=hf p.1 hb
  obtain⟨o,e',d⟩:=ho p.1 hb
  rw[e]at e';cases e'
  exact⟨e,f0,f1,f2,d⟩
theorem Inv.ZcC {pins pl:List (Addr×Obj)}{σ:St}{H:Hp}{s:Shared} (I:Inv X (pins++pl) σ H s):Inv X pins σ H s:=I.ZdO λp hp=>I.pin p (Yo _ (YN _ hp))
theorem Za0 {iter:Expr}{body:List Stmt}{wi:TI}{g:TG}{tb:TS}{pos:Pos} (hp:PassesOwn (model X.prog X.w) X.A X.env X.xe) (hc:X.calm=true) (hi:PI X tg iter wi) (hg:PG X tg g) (hb:PSs X body tb)
  (hs:∀x,foldedSetIterable iter X.env x=pure x:=by intro _;rfl):PS X (.For tg iter body [] pos) (tFor wi g tb):=by
 intro pins s σ H D I h
 refine wpAny_For (thn (hi pins s σ H _ I h) λv s1 h1=>thn h1 λitv s2 h2=>?_) hs
 obtain⟨it,fp,tn,J,H2,e,I2,T,st2,f2,W,⟨m0,w0⟩,turn⟩:=h2
 subst e
 -- what stays true of the iterator's objects through the loop
 have stat:∀{H':Hp},(∀b∈fp,H' b=none)->∀b∈fp,FpOk X pins H' b:=λhn b hb=>⟨hn b hb,(f2 b hb).2⟩
 refine codeAny_forLoop_any (λn s'=>∃i σ' H',Inv X pins σ' H' s'/\tn i s'.heap/\(∀b∈fp,H' b=none)/\W i n σ' H') ?_ m0 ⟨0,σ,H2,I2,st2,λb hb=>(f2 b hb).1,w0⟩
 rintro n s3 ⟨i,σ3,H3,I3,st3,fr3,w3⟩
 rcases turn i n σ3 H3 w3 with⟨stop,qn⟩|⟨go,N,hN,step⟩
 ·refine wpAny_passesOwn hp (thn (T.done X rfl rfl rfl hc i pins s3 σ3 H3 X.xe I3 (stat fr3) st3 stop) λr s4 ⟨hr,I4⟩=>?_)
  subst hr
  exact wpAny_execs_nil ⟨σ3,H3,I4,qn⟩
 ·refine wpAny_passesOwn hp (thn (T.item X rfl rfl rfl hc i pins s3 σ3 H3 X.xe I3 (stat fr3) st3 go) λr s4 ⟨u,hr,h4⟩=>?_)
  subst hr
  refine wpAny_passesOwn hp (thn h4 λ_ s5 ⟨x,H5,I5,r5,y5,st5,fr5⟩=>?_)
  have I5':=I5.pinned (stat fr5) (T.obj _ _ st5)
  refine wpAny_passesOwn hp (thn (hg _ s5 σ3 H5 x u _ I5' r5 (step x H5 y5)) λ_ s6 ⟨σ6,H6,I6,q6⟩=>?_)
  refine wpAny_passesOwn hp (thn (hb _ s6 σ6 H6 _ I6 q6) λf s7 q7=>?_)
  have again:∀{σ7:St}{H7:Hp},Inv X (pins++ZcB fp s5.heap) σ7 H7 s7->N σ7 H7->∃m,m<n/\∃i σ' H',Inv X pins σ' H' s7/\tn i s7.heap/\(∀b∈fp,H' b=none)/\W i m σ' H':=λ{σ7 H7} I7 n7=>by
   obtain⟨m',hm,w7⟩:=hN σ7 H7 n7
   refine⟨m',hm,i+1,σ7,H7,I7.ZcC,T.keep _ _ _ st5 λb hb o e=>(I7.pin (b,o) (Yo _ (Yo _ (Zb3 hb e)))).1,λb hb=>?_,w7⟩
   obtain⟨o,e,d⟩:=T.obj _ _ st5 b hb
   exact(I7.pin (b,o) (Yo _ (Yo _ (Zb3 hb e)))).2.1
  cases f with
  |next=>obtain⟨σ7,H7,I7,n7⟩:=q7;exact again I7 n7
  |cont=>obtain⟨σ7,H7,I7,n7⟩:=q7;exact again I7 n7
  |brk=>obtain⟨σ7,H7,I7,q7⟩:=q7;exact⟨σ7,H7,I7.ZcC,q7⟩
  |ret v=>obtain⟨x7,σ7,H7,I7,r7,q7⟩:=q7;exact⟨x7,σ7,H7,I7.ZcC,r7,q7⟩
end
theorem Zak {lo:Int}{n:Nat}{g:TG}{tb:TS}{D:Ends}{σ:St}{H:Hp} (Pv:Nat->St->Hp->Prop) (h0:Pv 0 σ H)
  (hs:∀i σ H,i<n->Pv i σ H->g (.int (lo+i)) σ H fun σ2 H2=>tb {D with nx:=Pv (i+1),ct:=Pv (i+1),bk:=D.nx} σ2 H2) (hd:∀σ H,Pv n σ H->D.nx σ H) :
  ∃W:Nat->Nat->St->Hp->Prop,(∃m,W 0 m σ H)/\∀i m σ H,W i m σ H ->
   ((Itr lo n).stop i H/\D.nx σ H)\/((Itr lo n).go i H/\∃N:St->Hp->Prop,(∀σ' H',N σ' H'->∃m',m'<m/\W (i+1) m' σ' H')/\∀x H',(Itr lo n).yld i H x H'->g x σ H' fun σ2 H2=>tb {D with nx:=N,ct:=N,bk:=D.nx} σ2 H2):=by
 refine⟨λi m σ H=>m=n-i/\i<=n/\Pv i σ H,⟨n,by simp,Yp _,h0⟩,?_⟩
 rintro i m σ H ⟨rfl,hi,p⟩
 by_cases hlt:i<n
 ·refine .inr ⟨hlt,Pv (i+1),fun σ' H' p'=>⟨n-(i+1),by omega,rfl,hlt,p'⟩,λx H' y=>?_⟩
  obtain⟨e,y⟩:=y
  subst e y
  exact hs i σ _ hlt p
 ·have e:i=n:=by omega
  subst e
  exact .inl ⟨Yd _,hd σ H p⟩
noncomputable abbrev R2:=V->V->Hp->VK->Prop
noncomputable def OpR (X:Cx) (f:Value->Value->Sem Value) (r:R2):Prop :=
 ∀(pins:List (Addr×Obj)) (s:Shared) (σ:St) (H:Hp) (x y:V) (v u:Value) (Q:VK),Inv X pins σ H s->RelV x v->RelV y u->r x y H Q ->
  wpAny (model X.prog X.w) X.A (f v u) (EP X pins σ Q) X.xe s
noncomputable def UnR (X:Cx) (f:Value->Sem Value) (r:V->Hp->VK->Prop):Prop :=
 ∀(pins:List (Addr×Obj)) (s:Shared) (σ:St) (H:Hp) (x:V) (v:Value) (Q:VK),Inv X pins σ H s->RelV x v->r x H Q ->
  wpAny (model X.prog X.w) X.A (f v) (EP X pins σ Q) X.xe s
noncomputable def Za7 (X:Cx) (f:Value) (r:List V->Hp->VK->Prop):Prop :=
 ∀(pins:List (Addr×Obj)) (s:Shared) (σ:St) (H:Hp) (xs:List V) (us:List Value) (Q:VK),Inv X pins σ H s->Vals xs us->r xs H Q ->
  wpAny (model X.prog X.w) X.A (call f us) (EP X pins σ Q) X.xe s
noncomputable def tOp (r:R2) (ta tb:TE):TE:=fun σ H Q=>ta σ H λx H1=>tb σ H1 λy H2=>r x y H2 Q
noncomputable def tUn (r:V->Hp->VK->Prop) (ta:TE):TE:=fun σ H Q=>ta σ H λx H1=>r x H1 Q
noncomputable def rI (C:Int->Int->Prop) (g:Int->Int->V):R2:=λx y H Q=>∃i j,x=.int i/\y=.int j/\C i j/\Q (g i j) H
noncomputable def rI0 (g:Int->Int->V):R2:=λx y H Q=>∃i j,x=.int i/\y=.int j/\Q (g i j) H
noncomputable def rU (g:Int->V):V->Hp->VK->Prop:=λx H Q=>∃i,x=.int i/\Q (g i) H
section
variable {X:Cx}{a b c:Expr}{ta tb tc:TE}{pos:Pos}
theorem binT (ha:PE X a ta) (hb:PE X b tb) {pins:List (Addr×Obj)}{s:Shared}{σ:St}{H:Hp}{R:V->V->Hp->Prop} (I:Inv X pins σ H s)
  (h:ta σ H λx H1=>tb σ H1 λy H2=>R x y H2) {Q:Value->Shared->Prop}{f:Value->Value->Sem Value}
  (hf:∀v u s2 x y H2,Inv X pins σ H2 s2->RelV x v->RelV y u->R x y H2->wpAny (model X.prog X.w) X.A (f v u) Q X.xe s2) :
  wpAny (model X.prog X.w) X.A (eval a X.env) (λv s₁=>wpAny (model X.prog X.w) X.A (eval b X.env) (λu s₂=>wpAny (model X.prog X.w) X.A (f v u) Q X.xe s₂) X.xe s₁) X.xe s:=by
 refine thn (ha pins s σ H _ I h) λv s1 ⟨x,H1,I1,r1,q1⟩=>?_
 refine thn (hb pins s1 σ H1 _ I1 q1) λu s2 ⟨y,H2,I2,r2,q2⟩=>?_
 exact hf v u s2 x y H2 I2 r1 r2 q2
theorem Zm {op:Operator}{r:R2} (ho:OpR X (binaryOp op) r) (ha:PE X a ta) (hb:PE X b tb):PE X (.BinOp a op b pos) (tOp r ta tb):=by
 intro pins s σ H Q I h
 exact wpAny_BinOp (binT ha hb I h λv u s2 x y H2 I2 rx ry q=>ho pins s2 σ H2 x y v u Q I2 rx ry q)
theorem Zju {op:UnaryOp}{r:V->Hp->VK->Prop} (ho:UnR X (unaryOp op) r) (ha:PE X a ta):PE X (.UnaryOp op a pos) (tUn r ta):=by
 intro pins s σ H Q I h
 exact UnaryOp_ (thn (ha pins s σ H _ I h) λv s1 ⟨x,H1,I1,r1,q1⟩=>ho pins s1 σ H1 x v Q I1 r1 q1)
theorem opI {f:Value->Value->Sem Value}{C:Int->Int->Prop}{g:Int->Int->Int}
  (rule:∀(i j:Int) (t u:Tok) (s:Shared) (Q:Value->Shared->Prop) (E:Value->Shared->Prop),C i j->Q (.int (g i j) s.toks) {s with toks:=s.toks+1}->wpAny (model X.prog X.w) X.A (f (.int i t) (.int j u)) Q E s) :
  OpR X f (rI C λi j=>.int (g i j)):=by
 intro pins s σ H x y v u Q I rx ry h
 obtain⟨i,j,rfl,rfl,hc,q⟩:=h
 obtain⟨t,rfl⟩:=rx
 obtain⟨t',rfl⟩:=ry
 exact rule i j t t' s _ _ hc ⟨.int (g i j),H,I.tok _,⟨_,rfl⟩,q⟩
theorem opI0 {f:Value->Value->Sem Value}{g:Int->Int->Int}
  (rule:∀(i j:Int) (t u:Tok) (s:Shared) (Q:Value->Shared->Prop) (E:Value->Shared->Prop),Q (.int (g i j) s.toks) {s with toks:=s.toks+1}->wpAny (model X.prog X.w) X.A (f (.int i t) (.int j u)) Q E s) :
  OpR X f (rI0 λi j=>.int (g i j)):=by
 intro pins s σ H x y v u Q I rx ry h
 obtain⟨i,j,rfl,rfl,q⟩:=h
 obtain⟨t,rfl⟩:=rx
 obtain⟨t',rfl⟩:=ry
 exact rule i j t t' s _ _ ⟨.int (g i j),H,I.tok _,⟨_,rfl⟩,q⟩
theorem opB0 {f:Value->Value->Sem Value}{g:Int->Int->Bool}
  (rule:∀(i j:Int) (t u:Tok) (s:Shared) (Q:Value->Shared->Prop) (E:Value->Shared->Prop),Q (.bool (g i j)) s->wpAny (model X.prog X.w) X.A (f (.int i t) (.int j u)) Q E s) :
  OpR X f (rI0 λi j=>.bl (g i j)):=by
 intro pins s σ H x y v u Q I rx ry h
 obtain⟨i,j,rfl,rfl,q⟩:=h
 obtain⟨t,rfl⟩:=rx
 obtain⟨t',rfl⟩:=ry
 exact rule i j t t' s _ _ ⟨.bl (g i j),H,I,rfl,q⟩
noncomputable def CDiv (i j:Int):Prop:=0<j/\j<1073741824
noncomputable def Zj4 (i j:Int):Prop:=0<=j/\j<=1000000/\i.natAbs<2 ^ 64
theorem ZiR (k:Nat):(0:Int)<=2 ^ k:=by
 rw[two_pow_cast]
 exact Int.natCast_nonneg _
theorem Zb4:OpR X (binaryOp .Add) (rI0 λi j=>.int (i+j)):=opI0 λ_ _ _ _ _ _ _ q=>add_int q
theorem ZbK:OpR X (binaryOp .Sub) (rI0 λi j=>.int (i-j)):=opI0 λ_ _ _ _ _ _ _ q=>sub_int q
theorem Zhb:OpR X (binaryOp .FloorDiv) (rI CDiv λi j=>.int (i / j)):=opI λi j _ _ _ _ _ hc q=>by
 have h1:(0:Int)<j:=hc.1
 have h2:j<1073741824:=hc.2
 exact floordiv_int (by omega) (by rw[Int.fdiv_eq_ediv_of_nonneg i (by omega)];exact q) (.inl (PyProof.noPylong_small (by omega)))
theorem Zdr:OpR X (binaryOp .Mod) (rI (λ_ j=>0<j) λi j=>.int (i % j)):=opI λi j _ _ _ _ _ hc q=>by
 have h1:(0:Int)<j:=hc
 exact mod_int' (by omega) (by rw[Int.fmod_eq_emod_of_nonneg i (by omega)];exact q)
theorem Zem:OpR X (binaryOp .Pow) (rI Zj4 λi j=>.int (i ^ j.toNat)):=opI λ_ _ _ _ _ _ _ hc q=>pow_int_small hc.1 hc.2.1 hc.2.2 q
theorem op_shl:OpR X (binaryOp .LShift) (rI Zj4 λi j=>.int (i*2 ^ j.toNat)):=opI λ_ _ _ _ _ _ _ hc q=>lshift_int_small hc.1 hc.2.1 hc.2.2 q
theorem op_shr:OpR X (binaryOp .RShift) (rI (λ_ j=>0<=j) λi j=>.int (i / 2 ^ j.toNat)):=opI λi j _ _ _ _ _ hc q =>
 rshift_int hc (by rw[Int.fdiv_eq_ediv_of_nonneg i (ZiR _)];exact q)
theorem op_and:OpR X (binaryOp .BitAnd) (rI0 λi j=>.int (Builtin.bitAnd i j)):=opI0 λ_ _ _ _ _ _ _ q=>and_int q
theorem unI {f:Value->Sem Value}{g:Int->Int}
  (rule:∀(i:Int) (t:Tok) (s:Shared) (Q:Value->Shared->Prop) (E:Value->Shared->Prop),Q (.int (g i) s.toks) {s with toks:=s.toks+1}->wpAny (model X.prog X.w) X.A (f (.int i t)) Q E s) :
  UnR X f (rU λi=>.int (g i)):=by
 intro pins s σ H x v Q I rx h
 obtain⟨i,rfl,q⟩:=h
 obtain⟨t,rfl⟩:=rx
 exact rule i t s _ _ ⟨.int (g i),H,I.tok _,⟨_,rfl⟩,q⟩
theorem Zhc:UnR X (unaryOp .USub) (rU λi=>.int (-i)):=unI λ_ _ _ _ _ q=>neg_int q
end
noncomputable def ZhN:V->V->Bool
 |.non,.non=>true|.non,.int _=>true|.int _,.non=>true|.non,.bl _=>true|.bl _,.non=>true|.non,.str _=>true|.str _,.non=>true
 |.int _,.int _=>true|.bl _,.bl _=>true|.str _,.str _=>true|.byt _,.byt _=>true
 |.int _,.str _=>true|.str _,.int _=>true|.bl _,.str _=>true|.str _,.bl _=>true
 |_,_=>false
noncomputable def rEq:R2:=λx y H Q=>ZhN x y=true/\Q (.bl (decide (x=y))) H
noncomputable def rNe:R2:=λx y H Q=>ZhN x y=true/\Q (.bl (!decide (x=y))) H
theorem Zjv {i j:Int}:decide (V.int i=V.int j)=(i==j):=by
 rw[Bool.eq_iff_iff]
 simp
theorem Zli {i j:Bool}:decide (V.bl i=V.bl j)=(i==j):=by
 rw[Bool.eq_iff_iff]
 simp
theorem Zjw {i j:Str}:decide (V.str i=V.str j)=(i==j):=by
 rw[Bool.eq_iff_iff]
 simp
theorem Zjx {i j:Array UInt8}:decide (V.byt i=V.byt j)=(i.toList==j.toList):=by
 rw[Bool.eq_iff_iff]
 cases i
 cases j
 simp
section
variable {X:Cx}{a b c:Expr}{ta tb tc:TE}{pos:Pos}
theorem Zv {pins:List (Addr×Obj)}{σ:St}{H:Hp}{s:Shared}{Q:VK}{k k':Bool} (I:Inv X pins σ H s) (q:Q (.bl k) H) (e:k=k'):EP X pins σ Q (.bool k') s:=by
 subst e
 exact⟨.bl k,H,I,rfl,q⟩
theorem ZeP:OpR X (compareOp .Eq) rEq:=by
 intro pins s σ H x y v u Q I rx ry h
 obtain⟨hs,q⟩:=h
 cases x with
 |non =>
  cases rx
  cases y with
  |non=>cases ry;exact PySem.EqNone.eq_none_none (Zv I q (by simp))
  |bl j=>cases ry;exact PySem.EqNone.eq_none_bool (Zv I q (by simp))
  |int j=>obtain⟨t',rfl⟩:=ry;exact PySem.EqNone.eq_none_int (Zv I q (by simp))
  |str j=>obtain⟨t',rfl⟩:=ry;exact PySem.EqNone.eq_none_str (Zv I q (by simp))
  |_=>exact absurd (show false=true from hs) Yx
 |bl i =>
  cases rx
  cases y with
  |non=>cases ry;exact PySem.EqNone.eq_bool_none (Zv I q (by simp))
  |bl j=>cases ry;exact eq_bool (Zv I q Zli)
  |str j=>obtain⟨t',rfl⟩:=ry;exact PySem.EqMixed.eq_bool_str (Zv I q (by simp))
  |_=>exact absurd (show false=true from hs) Yx
 |int i =>
  obtain⟨t,rfl⟩:=rx
  cases y with
  |non=>cases ry;exact PySem.EqNone.eq_int_none (Zv I q (by simp))
  |int j=>obtain⟨t',rfl⟩:=ry;exact eq_int (Zv I q Zjv)
  |str j=>obtain⟨t',rfl⟩:=ry;exact PySem.EqMixed.eq_int_str (Zv I q (by simp))
  |_=>exact absurd (show false=true from hs) Yx
 |str i =>
  obtain⟨t,rfl⟩:=rx
  cases y with
  |non=>cases ry;exact PySem.EqNone.eq_str_none (Zv I q (by simp))
  |bl j=>cases ry;exact PySem.EqMixed.eq_str_bool (Zv I q (by simp))
  |int j=>obtain⟨t',rfl⟩:=ry;exact PySem.EqMixed.eq_str_int (Zv I q (by simp))
  |str j=>obtain⟨t',rfl⟩:=ry;exact eq_str (Zv I q Zjw)
  |_=>exact absurd (show false=true from hs) Yx
 |byt i =>
  obtain⟨t,rfl⟩:=rx
  cases y with
  |byt j=>obtain⟨t',rfl⟩:=ry;exact PySem.W.eq_bytes (Zv I q Zjx)
  |_=>exact absurd (show false=true from hs) Yx
 |_=>cases y<;>exact absurd (show false=true from hs) Yx
theorem Zgw:OpR X (compareOp .NotEq) rNe:=by
 intro pins s σ H x y v u Q I rx ry h
 obtain⟨hs,q⟩:=h
 cases x with
 |non =>
  cases rx
  cases y with
  |non=>cases ry;exact PySem.EqNone.ne_none_none (Zv I q (by simp))
  |bl j=>cases ry;exact PySem.EqNone.ne_none_bool (Zv I q (by simp))
  |int j=>obtain⟨t',rfl⟩:=ry;exact PySem.EqNone.ne_none_int (Zv I q (by simp))
  |str j=>obtain⟨t',rfl⟩:=ry;exact PySem.EqNone.ne_none_str (Zv I q (by simp))
  |_=>exact absurd (show false=true from hs) Yx
 |bl i =>
  cases rx
  cases y with
  |non=>cases ry;exact PySem.EqNone.ne_bool_none (Zv I q (by simp))
  |bl j=>cases ry;exact ne_bool (Zv I q (congrArg not Zli))
  |str j=>obtain⟨t',rfl⟩:=ry;exact PySem.EqMixed.ne_bool_str (Zv I q (by simp))
  |_=>exact absurd (show false=true from hs) Yx
 |int i =>
  obtain⟨t,rfl⟩:=rx
  cases y with
  |non=>cases ry;exact PySem.EqNone.ne_int_none (Zv I q (by simp))
  |int j=>obtain⟨t',rfl⟩:=ry;exact ne_int (Zv I q (congrArg not Zjv))
  |str j=>obtain⟨t',rfl⟩:=ry;exact PySem.EqMixed.ne_int_str (Zv I q (by simp))
  |_=>exact absurd (show false=true from hs) Yx
 |str i =>
  obtain⟨t,rfl⟩:=rx
  cases y with
  |non=>cases ry;exact PySem.EqNone.ne_str_none (Zv I q (by simp))
  |bl j=>cases ry;exact PySem.EqMixed.ne_str_bool (Zv I q (by simp))
  |int j=>obtain⟨t',rfl⟩:=ry;exact PySem.EqMixed.ne_str_int (Zv I q (by simp))
  |str j=>obtain⟨t',rfl⟩:=ry;exact ne_str (Zv I q (congrArg not Zjw))
  |_=>exact absurd (show false=true from hs) Yx
 |byt i =>
  obtain⟨t,rfl⟩:=rx
  cases y with
  |byt j=>obtain⟨t',rfl⟩:=ry;exact PySem.W.ne_bytes (Zv I q (congrArg not Zjx))
  |_=>exact absurd (show false=true from hs) Yx
 |_=>cases y<;>exact absurd (show false=true from hs) Yx
theorem ZeQ:OpR X (compareOp .Lt) (rI0 λi j=>.bl (decide (i<j))):=opB0 λ_ _ _ _ _ _ _ q=>lt_int q
theorem Zlj:OpR X (compareOp .LtE) (rI0 λi j=>.bl (decide (i<=j))):=opB0 λ_ _ _ _ _ _ _ q=>le_int q
theorem Zgx:OpR X (compareOp .Gt) (rI0 λi j=>.bl (decide (j<i))):=opB0 λ_ _ _ _ _ _ _ q=>gt_int q
theorem op_ge:OpR X (compareOp .GtE) (rI0 λi j=>.bl (decide (j<=i))):=opB0 λ_ _ _ _ _ _ _ q=>ge_int q
theorem ZmM:OpR X (compareOp .IsNot) (λx y H Q=>y=.non/\Q (.bl (!decide (x=.non))) H):=by
 intro pins s σ H x y v u Q I rx ry h
 obtain⟨rfl,q⟩:=h
 cases ry
 refine isnot_none_gen (Zv I q ?_)
 cases x<;>first
  |(cases rx;rfl)
  |(obtain⟨t,rfl⟩:=rx;rfl)
theorem Zw (b:Expr) {op:CmpOp} (h:op≠.In:=by decide) (h2:op≠.NotIn:=by decide):behindInMarks op b=false:=by
 have e1:(op==CmpOp.In)=false:=by cases op<;>first|rfl|exact absurd rfl h
 have e2:(op==CmpOp.NotIn)=false:=by cases op<;>first|rfl|exact absurd rfl h2
 cases b<;>simp[behindInMarks,e1,e2]
theorem Zfe {op:CmpOp}{r:R2} (ho:OpR X (compareOp op) r) (ha:PE X a ta) (hb:PE X b tb) (hm:behindInMarks op b=false):PE X (.Compare a [op] [b] pos) (tOp r ta tb):=by
 intro pins s σ H Q I h
 exact wpAny_Compare1 (binT ha hb I h λv u s2 x y H2 I2 rx ry q=>ho pins s2 σ H2 x y v u Q I2 rx ry q) hm
noncomputable def tTest (t:TE):TT:=fun σ H Q=>t σ H λx H'=>∃k,x=.bl k/\Q k H'
theorem Zs {op:CmpOp}{r:R2} (ho:OpR X (compareOp op) r) (ha:PE X a ta) (hb:PE X b tb) (hm:behindInMarks op b=false):PT X (.Compare a [op] [b] pos) (tTest (tOp r ta tb)):=by
 intro pins s σ H Q I h
 refine wpAny_isTrue_Compare1 (thn (ha pins s σ H _ I h) λv s1 ⟨x,H1,I1,r1,q1⟩=>thn (hb pins s1 σ H1 _ I1 q1) λu s2 ⟨y,H2,I2,r2,q2⟩ =>
  thn (ho pins s2 σ H2 x y v u _ I2 r1 r2 q2) λc s3 ⟨z,H3,I3,r3,k,e,q3⟩=>?_) hm
 subst e
 cases r3
 exact wpAny_truthy_bool ⟨H3,I3,q3⟩
noncomputable def tChain (r r':R2) (ta tb tc:TE):TE:=fun σ H Q=>ta σ H λx H1=>tb σ H1 λy H2=>r x y H2 λz H3=>∃k,z=.bl k /\
 (if k=true then tc σ H3 λw' H4=>r' y w' H4 Q else Q (.bl false) H3)
theorem ZhO {op op':CmpOp}{r r':R2} (ho:OpR X (compareOp op) r) (ho':OpR X (compareOp op') r') (ha:PE X a ta) (hb:PE X b tb) (hc:PE X c tc)
  (hm:lastMarks [op,op'] [b,c]=false:=by with_unfolding_all rfl):PT X (.Compare a [op,op'] [b,c] pos) (tTest (tChain r r' ta tb tc)):=by
 intro pins s σ H Q I h
 refine isTrue_chain (thn (ha pins s σ H _ I h) λv s1 ⟨x,H1,I1,r1,q1⟩=>test_link (thn (hb pins s1 σ H1 _ I1 q1) λu s2 ⟨y,H2,I2,r2,q2⟩ =>
  thn (ho pins s2 σ H2 x y v u _ I2 r1 r2 q2) λd s3 ⟨z,H3,I3,r3,k,e,q3⟩=>?_)) hm
 subst e
 cases r3
 refine wpAny_truthy_bool ?_
 cases k with
 |false =>
  obtain⟨k',e',q'⟩:=q3
  cases e'
  exact ite_ff ⟨H3,I3,q'⟩
 |true =>
  refine ite_tt (test_last (thn (hc pins s3 σ H3 _ I3 q3) λw' s4 ⟨z',H4,I4,r4,q4⟩=>thn (ho' pins s4 σ H4 y z' u w' _ I4 r2 r4 q4) λd' s5 ⟨z2,H5,I5,r5,k2,e2,q5⟩=>?_))
  subst e2
  cases r5
  exact wpAny_truthy_bool ⟨H5,I5,q5⟩
theorem Zds:(sizeLine:Nat)<2 ^ 63:=by rw[sizeLine_eq];decide
theorem Zb5:OpR X (binaryOp .Add) (λx y H Q=>∃i j,x=.str i/\y=.str j/\i.length+j.length<=sizeLine/\Q (.str (i++j)) H):=by
 intro pins s σ H x y v u Q I rx ry h
 obtain⟨i,j,rfl,rfl,hz,q⟩:=h
 obtain⟨t,rfl⟩:=rx
 obtain⟨t',rfl⟩:=ry
 exact add_str (λt' tk=>⟨.str (i++j),H,I.tok _,⟨_,rfl⟩,q⟩) hz
theorem vals1 {x:V}{us:List Value} (r:Vals [x] us):∃u,us=[u]/\RelV x u:=by
 cases r with
 |cons r1 r2=>cases r2;exact⟨_,rfl,r1⟩
theorem vals2 {x y:V}{us:List Value} (r:Vals [x,y] us):∃u w',us=[u,w']/\RelV x u/\RelV y w':=by
 cases r with
 |cons r1 r2 =>
  cases r2 with
  |cons r3 r4=>cases r4;exact⟨_,_,rfl,r1,r3⟩
theorem Zj5 (hc:X.calm=true):Za7 X (.builtin "max") (λxs H Q=>∃i j,xs=[.int i,.int j]/\Q (.int (if j>i then j else i)) H):=by
 intro pins s σ H xs us Q I r h
 obtain⟨i,j,rfl,q⟩:=h
 obtain⟨u,w',rfl,⟨t,rfl⟩,⟨t',rfl⟩⟩:=vals2 r
 refine max_two_ints (I.ok.hd hc) λh' tk k=>⟨_,H,I.kept k,?_,q⟩
 by_cases hj:j>i
 ·rw[Yc hj,Yc hj];exact⟨_,rfl⟩
 ·rw[Yb hj,Yb hj];exact⟨_,rfl⟩
theorem Zj6 (hc:X.calm=true):Za7 X (.builtin "min") (λxs H Q=>∃i j,xs=[.int i,.int j]/\Q (.int (if j<i then j else i)) H):=by
 intro pins s σ H xs us Q I r h
 obtain⟨i,j,rfl,q⟩:=h
 obtain⟨u,w',rfl,⟨t,rfl⟩,⟨t',rfl⟩⟩:=vals2 r
 refine min_two_ints (I.ok.hd hc) λh' tk k=>⟨_,H,I.kept k,?_,q⟩
 by_cases hj:j<i
 ·rw[Yc hj,Yc hj];exact⟨_,rfl⟩
 ·rw[Yb hj,Yb hj];exact⟨_,rfl⟩
end
structure ObjM (h:Heap) (x dx C:Addr) (mA:Str->Option Value):Prop where
 obj:h.get? x=some (PySem.W.instObj C dx)
 ns:h.Ns1 dx mA
 ne:dx≠x
theorem Zj7 {h:Heap}{dx:Addr}{mA:Str->Option Value} (n:h.Ns1 dx mA):∃od,h.get? dx=some od/\∀name,PySem.W.lookIn name od=some (mA name):=by
 obtain⟨o,es,ep,ho,hd,hk,_,hm⟩:=n
 refine⟨o,ho,λname=>?_⟩
 have e:=hm name
 unfold nsFind findBy at e
 rw[<-Array.find?_toList]at e
 unfold PySem.W.lookIn
 rw[hd]
 dsimp only
 split
 ·rename_i y q
  rw[q]at e
  exact congrArg some e
 ·rename_i q
  rw[q]at e
  have a:es.toList.any (·.refKey)=false:=by
   rw[List.any_eq_false]
   intro y hy
   obtain⟨z,t,hkey⟩:=hk y (Array.mem_toList_iff.mp hy)
   simp[DictEntry.refKey,hkey]
  have a':¬ es.toList.any (·.refKey)=true:=by rw[a];exact Yx
  rw[Yb a']
  exact congrArg some e
theorem ObjM.look {h:Heap}{x dx C:Addr}{mA:Str->Option Value} (I:ObjM h x dx C mA):∃od,PySem.W.InstAt h x (PySem.W.instObj C dx) C (some od)/\∀name,PySem.W.lookIn name od=some (mA name) :=
 let ⟨od,ho,hl⟩:=Zj7 I.ns
 ⟨od,⟨I.obj,rfl,rfl,ho⟩,hl⟩
section
variable {P:Program}{w:World}{H H':Hp}{h h':Heap}{a C dx:Addr}{fs fs':List (Str×V)}
theorem Zff (hok:HOk P w H h) (e:H a=some (.ins C dx fs)):∃mA,ObjM h a dx C mA/\(∀f,RelO (fs.lookup f) (mA f))/\PySem.Within mA (fs.map (·.1))/\fs.length<=1000/\H dx=some (.own a):=by
 obtain⟨d,z,ne,ob,mA,n,r,q⟩:=(show ZX P w H h a (.ins C dx fs)from hok a _ e)
 exact⟨mA,⟨ob,n,ne⟩,r,q,z,d⟩
end
structure Cls (K:PySem.W.Frag) (C:Addr):Prop where
 pg:PySem.W.plainGet K C Str.empty=true
 hd:PySem.W.hasDictIn K C=true
 po:PySem.W.plainOver K C=true
 sa:PySem.W.findIn K (.ref C) "__setattr__"=some (some (.builtin "object.__setattr__"))
theorem Cls.get {K:PySem.W.Frag}{C:Addr} (c:Cls K C) (f:Str):PySem.W.plainGet K C f=true:=c.pg
section
variable {X:Cx}{pins:List (Addr×Obj)}{σ:St}{H:Hp}{s:Shared}{A:Around}{E:Value->Shared->Prop}{Q:Value->Shared->Prop}{c:Value}{b:Bool}
inductive TyOf (K:PySem.W.Frag) (H:Hp):V->Value->Prop where
 |non:TyOf K H .non (.type "NoneType")
 |bl (x:Bool):TyOf K H (.bl x) (.type "bool")
 |int (i:Int):TyOf K H (.int i) (.type "int")
 |str (x:Str):TyOf K H (.str x) (.type "str")
 |flt (x:UInt64):TyOf K H (.flt x) (.type "float")
 |lst {a:Addr}{xs:List V} (e:H a=some (.lst xs)):TyOf K H (.ref a) (.type "list")
 |frz {a:Addr}{o:Obj}{xs:List V} (e:H a=some (.frz o (.lst xs))):TyOf K H (.ref a) (.type "list")
 |tup {a:Addr}{xs:List V} (e:H a=some (.tup xs)):TyOf K H (.ref a) (.type "tuple")
 |dK {a:Addr}{kvs:List (Key×V)} (e:H a=some (.dK kvs)):TyOf K H (.ref a) (.type "dict")
 |dT {a:Addr}{kvs:List (List Key×V)} (e:H a=some (.dT kvs)):TyOf K H (.ref a) (.type "dict")
 |ins {a C dx:Addr}{fs:List (Str×V)} (e:H a=some (.ins C dx fs)) (cl:Cls K C) (ha:PySem.W.findIn K (.ref C) "__class__"=some (some (.builtin "object.__class__")))
   (hn:PySem.W.specialIn K (.builtin "object.__class__") "__get__"=some (some (.builtin "getset_descriptor.__get__"))) (htk:PySem.W.takesIn K (.builtin "object.__class__")=some true)
   (hm:PySem.W.mroIn K C (.type "object")=some true):TyOf K H (.ref a) (.ref C)
theorem Zj8 {x:V}{u t:Value} (I:Inv X pins σ H s) (rx:RelV x u) (ty:TyOf X.K H x t) (e:PySem.W.kitOne X.K t c=some b) (h:∀tk,Q (.bool b) {s with toks:=tk}) :
  wpAny (model X.prog X.w) A (call (.builtin "isinstance") [u,c]) Q E s:=by
 cases ty with
 |non=>cases(show u=Value.none from rx);exact PySem.W.kia_one PySem.W.kitx_none I.kIn True.intro e (λz=>nomatch z) h
 |bl y=>cases(show u=Value.bool y from rx);exact PySem.W.kia_one PySem.W.kitx_bool I.kIn True.intro e (λz=>nomatch z) h
 |int i=>obtain⟨t,q⟩:=(show ∃t,u=Value.int i t from rx);cases q;exact PySem.W.kia_one PySem.W.kitx_int I.kIn True.intro e (λz=>nomatch z) h
 |str y=>obtain⟨t,q⟩:=(show ∃t,u=Value.str y t from rx);cases q;exact PySem.W.kia_one PySem.W.kitx_str I.kIn True.intro e (λz=>nomatch z) h
 |flt y=>obtain⟨t,q⟩:=(show ∃t,u=Value.float y t from rx);cases q;exact PySem.W.kia_one PySem.W.kitx_float I.kIn True.intro e (λz=>nomatch z) h
 |@lst a xs ea =>
  cases(show u=Value.ref a from rx)
  obtain⟨_,_,n,_,h1⟩:=(show ZX X.prog X.w H s.heap a (.lst xs)from I.hok a _ ea)
  exact PySem.W.kia_one PySem.W.kitx_list I.kIn ⟨_,h1,rfl⟩ e (λz=>nomatch z) h
 |@frz a ob xs ea =>
  cases(show u=Value.ref a from rx)
  obtain⟨_,_,_,n,_,h1⟩:=(show ZX X.prog X.w H s.heap a (.frz ob (.lst xs))from I.hok a _ ea)
  exact PySem.W.kia_one PySem.W.kitx_list I.kIn ⟨_,h1,rfl⟩ e (λz=>nomatch z) h
 |@tup a xs ea =>
  cases(show u=Value.ref a from rx)
  obtain⟨_,_,_,p⟩:=(show ZX X.prog X.w H s.heap a (.tup xs)from I.hok a _ ea)
  obtain⟨o,h1,h2,_⟩:=p
  exact PySem.W.kia_one PySem.W.kitx_tuple I.kIn ⟨o,h1,h2⟩ e (λz=>nomatch z) h
 |@dK a kvs ea =>
  cases(show u=Value.ref a from rx)
  obtain⟨_,_,vs,_,p⟩:=(show ZX X.prog X.w H s.heap a (.dK kvs)from I.hok a _ ea)
  obtain⟨o,es,ep,h1,h2,_⟩:=p
  exact PySem.W.kia_one PySem.W.kitx_dict I.kIn ⟨o,h1,h2.1⟩ e (λz=>nomatch z) h
 |@dT a kvs ea =>
  cases(show u=Value.ref a from rx)
  obtain⟨_,_,xs,_,o,es,ep,h1,h2,_⟩:=(show ZX X.prog X.w H s.heap a (.dT kvs)from I.hok a _ ea)
  exact PySem.W.kia_one PySem.W.kitx_dict I.kIn ⟨o,h1,h2.1⟩ e (λz=>nomatch z) h
 |@ins a C dx fs ea cl ha hn htk hm =>
  cases(show u=Value.ref a from rx)
  obtain⟨mA,O,_⟩:=Zff I.hok ea
  obtain⟨od,J,_⟩:=O.look
  exact PySem.W.kia_one (PySem.W.kitx_own (cl.get _) cl.hd ha hn htk hm) I.kIn J e (λz=>nomatch z) h
end
structure Room (k:Nat) (A:Around):Prop where
 hd:A.handled=none
 dp:A.depth+3*k+5<recursionLimit
 un:A.units+16*k+200<cLine
theorem Room.mono {j k:Nat}{A:Around} (r:Room k A) (h:j<=k):Room j A:=⟨r.hd,by have:=r.dp;omega,by have:=r.un;omega⟩
theorem Room.deeper {k:Nat}{A:Around} (r:Room (k+1) A) (env:Env):Room k (A.deeper env) :=
 ⟨r.hd,by have:=r.dp;show A.depth+1+3*k+5 < _;omega,by have:=r.un;show A.units+3+16*k+200 < _;omega⟩
theorem Room.depth {k:Nat}{A:Around} (r:Room k A):A.depth<recursionLimit:=by have:=r.dp;omega
noncomputable def tNil:TA:=λ_ H Q=>Q [] H
noncomputable def tCons (ta:TE) (tr:TA):TA:=fun σ H Q=>ta σ H λx H1=>tr σ H1 λxs H2=>Q (x::xs) H2
section
variable {X:Cx}{e:Expr}{es:List Expr}{te:TE}{t:TA}{pos:Pos}
theorem Zb:PA X [] tNil:=λ_ _ _ _ H Q I h=>Calls.spliced_nil ⟨[],H,I,.nil,h⟩
theorem Za (ha:PE X e te) (hr:PA X es t) (hs:starEach (e::es) X.env=(false,eval e X.env)::starEach es X.env:=by rfl):PA X (e::es) (tCons te t):=by
 intro pos pins s σ H Q I h
 rw[hs]
 show wpAny _ _ (spliced ((false,eval e X.env)::backTo pos (starEach es X.env))) _ _ s
 refine Calls.spliced_cons (thn (ha pins s σ H _ I h) λu s1 ⟨x,H1,I1,r1,q1⟩=>?_)
 exact thn (hr pos pins s1 σ H1 _ I1 q1) λus s2 ⟨xs,H2,I2,r2,q2⟩=>⟨x::xs,H2,I2,.cons r1 r2,q2⟩
noncomputable def tTup (t:TA):TE:=fun σ H Q=>t σ H λxs H1=>xs.length<=sizeLine/\∀p,H1 p=none->Q (.ref p) (upd H1 p (.tup xs))
noncomputable def tLst (t:TA):TE:=fun σ H Q=>t σ H λxs H1=>xs.length<=sizeLine/\∀p,H1 p=none->Q (.ref p) (upd H1 p (.lst xs))
theorem Zlk {x1} (h:PA X es t):PE X (.Tuple es x1 pos) (tTup t):=by
 intro pins s σ H Q I hq
 refine wpAny_Tuple_spliced (thn (h pos pins s σ H _ I hq) λus s1 ⟨xs,H1,I1,r,z,q⟩=>⟨by rw[<-r.length];exact z,?_⟩)
 have hf:H1 s1.heap.objs.size=none:=I1.hok.fresh (Yd _)
 refine⟨.ref s1.heap.objs.size,upd H1 s1.heap.objs.size (.tup xs),I1.laid (t':=s1.toks) (λb u e=>Ym _ e) (Yd _) ?_,rfl,q _ hf⟩
 exact⟨z,us,r,⟨_,Yy _ rfl,rfl,_,rfl⟩⟩
theorem Zag (h:PA X es t):PE X (.List es pos) (tLst t):=by
 intro pins s σ H Q I hq
 refine wpAny_List_spliced (thn (h pos pins s σ H _ I hq) λus s1 ⟨xs,H1,I1,r,z,q⟩=>⟨by rw[<-r.length];exact z,?_⟩)
 have hf:H1 s1.heap.objs.size=none:=I1.hok.fresh (Yd _)
 refine⟨.ref s1.heap.objs.size,upd H1 s1.heap.objs.size (.lst xs),I1.laid (t':=s1.toks) (λb u e=>Ym _ e) (Yd _) ?_,rfl,q _ hf⟩
 exact⟨z,us,0,r,Yy _ rfl⟩
end
noncomputable abbrev Sp:=List V->Hp->VK->XK->Prop
noncomputable abbrev CXT:=List Env->Hp->Shared->XK->Value->Shared->Prop
structure Env0 (P:Program) (w:World) (K:PySem.W.Frag) (mg:Str->Option Value) (base:Heap) (A:Around) (outer:List Env) (s:Shared) (H:Hp):Prop where
 frames:A.frames=some outer
 mod:Mod K mg base
 bs:∀b o,base.get? b=some o->s.heap.get? b=some o/\H b=none
 bsz:base.objs.size<=s.heap.objs.size
 funs:s.heap.FunFrames base outer
 frf:∀b∈frs outer,H b=none
 hok:HOk P w H s.heap
 bare:AllBare s.gens
noncomputable def CE (outer:List Env) (P:Program) (w:World) (H:Hp) (s:Shared) (Q:VK) (u:Value) (s':Shared):Prop :=
 ∃v H',s'.os=s.os/\AllBare s'.gens/\Un (frs outer) [] H H' s.heap s'.heap/\HOk P w H' s'.heap/\RelV v u/\Q v H'
noncomputable def CR (CX:CXT) (outer:List Env) (P:Program) (w:World) (H:Hp) (s:Shared) (Q:VK) (E:XK) (r:Result) (s':Shared):Prop :=
 match r with
 |.ok (.ret u)=>CE outer P w H s Q u s'
 |.ok _=>False
 |.error e=>CX outer H s E e s'
structure FnOk (P:Program) (w:World) (K:PySem.W.Frag) (mg:Str->Option Value) (base:Heap) (CX:CXT) (k:Nat) (f:Addr) (fd:FuncData) (ps:List Str) (sp:Sp):Prop where
 len:∀vs H Q E,sp vs H Q E->vs.length=ps.length
 run:∀(A:Around) (outer:List Env) (s:Shared) (H:Hp) (args:Args) (us:List Value) (vs:List V) (Q:VK) (E:XK),Room k A->Env0 P w K mg base A outer s H->BindsTo s fd args (ps.zip us)->Vals vs us->sp vs H Q E ->
  codeAny (model P w) A (.call (.ref f) args) (CR CX outer P w H s Q E) s
section
variable {X:Cx}{pins:List (Addr×Obj)}{σ:St}{H:Hp}{s s':Shared}
theorem Inv.env0 (I:Inv X pins σ H s):Env0 X.prog X.w X.K X.mg X.base X.A X.stack s H :=
 ⟨I.ok.frames,I.ok.mod,I.bs,Yn I.ok.bsz I.sz,I.stack,I.Zg8,I.hok,I.bare⟩
theorem Inv.after {Q:VK}{u:Value} (I:Inv X pins σ H s) (h:CE X.stack X.prog X.w H s Q u s'):EP X pins σ Q u s':=by
 obtain⟨v,H',os,bare,un,hok,r,q⟩:=h
 obtain⟨hh,g,d,t,os'⟩:=s'
 obtain rfl:os'=s.os:=os
 exact⟨v,H',I.call (h':=hh) (g':=g) (d':=d) (t':=t) (ch:=[]) un hok bare (λb z=>absurd z (by simp)),r,q⟩
end
noncomputable def tCall (sp:Sp) (dvs:List V) (E:XK) (t:TA):TE:=fun σ H Q=>t σ H λvs H1=>sp (vs++dvs) H1 Q E
noncomputable def Binds (K:PySem.W.Frag) (fd:FuncData) (ps:List Str) (ds:List Value):Prop :=
 ∀(s:Shared) (us:List Value),K.In s.heap->(us++ds).length=ps.length->BindsTo s fd ⟨us,[]⟩ (ps.zip (us++ds))
theorem Binds.all {K:PySem.W.Frag}{fd:FuncData}{ps:List Str} (h:∀us:List Value,us.length=ps.length->bindArgs fd ⟨us,[]⟩=pure (ps.zip us)):Binds K fd ps []:=λs us _ hl=>by
 rw[List.append_nil]at hl⊢
 exact .of_eq (h us hl)
noncomputable def Passes (CX:CXT) (X:Cx) (E:XK):Prop:=∀(pins:List (Addr×Obj)) (σ:St) (H:Hp) (s:Shared) (e:Value) (s':Shared),Inv X pins σ H s->CX X.stack H s E e s'->X.xe e s'
section
variable {X:Cx}{CX:CXT}{k:Nat}{f C:Addr}{fd:FuncData}{ps:List Str}{sp:Sp}{dvs:List V}{ds:List Value}{E:XK}{x m:Str}{p pos apos:Pos}{e o:Expr}{es:List Expr}{ta:TE}{t:TA}
theorem run_fn {pins:List (Addr×Obj)}{σ:St}{H:Hp}{s:Shared}{Q:VK}{us:List Value}{vs:List V} (F:FnOk X.prog X.w X.K X.mg X.base CX k f fd ps sp) (hr:Room k X.A) (hb:Binds X.K fd ps ds) (hd:Vals dvs ds) (hx:Passes CX X E)
  (I:Inv X pins σ H s) (r:Vals vs us) (h:sp (vs++dvs) H Q E):wpAny (model X.prog X.w) X.A (call (.ref f) us) (EP X pins σ Q) X.xe s:=by
 have r2:Vals (vs++dvs) (us++ds):=r.append hd
 have hl:(us++ds).length=ps.length:=by rw[<-r2.length];exact F.len _ _ _ _ h
 refine wpAny_call (codeAny_mono (F.run X.A X.stack s H ⟨us,[]⟩ (us++ds) (vs++dvs) Q E hr I.env0 (hb s us I.kIn hl) r2 h) λr s' hq=>?_)
 cases r with
 |error e=>exact hx pins σ H s e s' I hq
 |ok fl =>
  cases fl with
  |ret u=>exact I.after hq
  |next=>exact False.elim hq
  |brk=>exact False.elim hq
  |cont=>exact False.elim hq
theorem ZmN (F:FnOk X.prog X.w X.K X.mg X.base CX k f fd ps sp) (hr:Room k X.A) (hg:Gl X x) (hm:X.mg x=some (.ref f)) (hk:PySem.W.keepIn X.K (.ref f)=true) (hb:Binds X.K fd ps ds) (hd:Vals dvs ds) (hx:Passes CX X E)
  (ha:PA X (e::es) t) (hdb:(x==("__debug__":Str))=false:=by decide) (he:starEach (e::es) X.env=(false,eval e X.env)::starEach es X.env:=by rfl) (hpl:(backTo pos (starEach es X.env)).any (·.1)=false:=by rfl) :
  PE X (.Call (.Name x p) (e::es) [] pos) (tCall sp dvs E t):=by
 intro pins s σ H Q I h
 refine wpAny_Call_Name_kw (Zfc I hg hm ?_ hdb)
 refine PySem.W.callWith_K (h₀:=X.base) I.ok.mod.kin hk (thn (ha pos pins s σ H _ I h) λus s1 ⟨vs,H1,I1,r,q⟩=>⟨I1.kIn,?_⟩) he hpl
 exact run_fn F hr hb hd hx I1 r q
end
noncomputable def PK (X:Cx) (kws:List Keyword) (t:TA):Prop :=
 ∀(pos:Pos) (pins:List (Addr×Obj)) (s:Shared) (σ:St) (H:Hp) (Q:List V->Hp->Prop),Inv X pins σ H s->t σ H Q->wpAny (model X.prog X.w) X.A (evalAll ((backToKw pos (keywordEach kws X.env)).map (·.2))) (AP X pins σ Q) X.xe s
section
variable {X:Cx}{CX:CXT}{k:Nat}{f C:Addr}{fd:FuncData}{ps ks:List Str}{sp:Sp}{E:XK}{x m:Str}{p pos apos kpos:Pos}{e o:Expr}{es:List Expr}{kws:List Keyword}{te ta:TE}{t tk:TA}{nm:Option Str}
theorem Zll:PK X [] tNil:=λ_ _ _ _ H Q I h=>wpAny_evalAll_nil ⟨[],H,I,.nil,h⟩
theorem Zjy (ha:PE X e te) (hr:PK X kws t):PK X (⟨nm,e,kpos⟩::kws) (tCons te t):=by
 intro pos pins s σ H Q I h
 show wpAny _ _ (evalAll ((do let v <-eval e X.env;standAt pos;pure v)::(backToKw pos (keywordEach kws X.env)).map (·.2))) _ _ s
 refine wpAny_evalAll_cons (Ya (thn (ha pins s σ H _ I h) λu s1 ⟨x,H1,I1,r1,q1⟩=>Ya (wpAny_standAt (Ye ?_))))
 exact thn (hr pos pins s1 σ H1 _ I1 q1) λus s2 ⟨xs,H2,I2,r2,q2⟩=>⟨x::xs,H2,I2,.cons r1 r2,q2⟩
variable {g:List Value->List Value->List Value}{gV:List V->List V->List V}
end
structure FnScope (N P:List Str) (sc:Scope):Prop where
 kind:sc.kind=.function
 co:sc.isCoroutine=false
 gen:sc.isGenerator=false
 nd:N.Nodup
 pre:N.take P.length=P
 par:∀x∈P,sc.names.lookup x=some .local\/sc.names.lookup x=some .cell
 nofree:∀y∈sc.names,y.2≠.free
theorem Zgy {kindOf:Str->Option NameKind}{x:Str}:∀{binds:List (Str×Value)}{m:Str->Option Value},(∀v,(x,v)∉binds)->bindL kindOf binds m x=m x
 |[],_,_=>rfl
 |(n,v)::r,m,h=>by
  unfold bindL
  rw[Zgy λw hw=>h w (YK _ hw)]
  split
  ·have:x≠n:=by rintro rfl;exact h v YM
   simp[this]
  ·rfl
theorem Zgz {kindOf:Str->Option NameKind}{x:Str}:∀{binds:List (Str×Value)}{m:Str->Option Value},(∀v,(x,v)∉binds)->bindC kindOf binds m x=m x
 |[],_,_=>rfl
 |(n,v)::r,m,h=>by
  unfold bindC
  rw[Zgz λw hw=>h w (YK _ hw)]
  split
  ·rfl
  ·have:x≠n:=by rintro rfl;exact h v YM
   simp[this]
theorem ZgA {kindOf:Str->Option NameKind}{x:Str}{v:Value}:∀{P:List Str}{vs:List Value}{i:Nat}{m:Str->Option Value},P.Nodup->P[i]?=some x->vs[i]?=some v->kindOf x=some .local ->
  bindL kindOf (P.zip vs) m x=some v
 |[],_,_,_,_,h,_,_=>by simp at h
 |_::_,[],_,_,_,_,h,_=>by simp at h
 |p::P,w::vs,0,m,nd,h1,h2,hk=>by
  simp at h1 h2;subst h1;subst h2
  show bindL kindOf ((p,w)::P.zip vs) m p=_
  unfold bindL
  rw[Zgy λv hv=>(List.nodup_cons.mp nd).1 (List.of_mem_zip hv).1,Yc hk]
  simp
 |p::P,w::vs,i+1,m,nd,h1,h2,hk=>by
  show bindL kindOf ((p,w)::P.zip vs) m x=_
  unfold bindL
  exact ZgA (i:=i) (List.nodup_cons.mp nd).2 (by simpa using h1) (by simpa using h2) hk
theorem ZgB {kindOf:Str->Option NameKind}{x:Str}{v:Value}:∀{P:List Str}{vs:List Value}{i:Nat}{m:Str->Option Value},P.Nodup->P[i]?=some x->vs[i]?=some v->kindOf x≠some .local ->
  bindC kindOf (P.zip vs) m x=some v
 |[],_,_,_,_,h,_,_=>by simp at h
 |_::_,[],_,_,_,_,h,_=>by simp at h
 |p::P,w::vs,0,m,nd,h1,h2,hk=>by
  simp at h1 h2;subst h1;subst h2
  show bindC kindOf ((p,w)::P.zip vs) m p=_
  unfold bindC
  rw[Zgz λv hv=>(List.nodup_cons.mp nd).1 (List.of_mem_zip hv).1,Yb hk]
  simp
 |p::P,w::vs,i+1,m,nd,h1,h2,hk=>by
  show bindC kindOf ((p,w)::P.zip vs) m x=_
  unfold bindC
  exact ZgB (i:=i) (List.nodup_cons.mp nd).2 (by simpa using h1) (by simpa using h2) hk
noncomputable def start (N:List Str) (vs:List V):St:=vs.map some++List.replicate (N.length-vs.length) none
noncomputable def Ze6 (CX:CXT) (P:Program) (w:World) (K:PySem.W.Frag) (mg:Str->Option Value) (base:Heap) (N:List Str) (qual:Str) (scope:Scope) (f:Addr) (cd:Value) (A:Around) (outer:List Env) (s:Shared) (H:Hp) (E:XK):Cx where
 prog:=P
 w:=w
 K:=K
 mg:=mg
 base:=base
 A:=A.deeper (envOfC qual scope s.heap.objs.size f cd)
 N:=N
 s₀:=s
 H₀:=H
 env:=envOfC qual scope s.heap.objs.size f cd
 outer:=outer
 stack:=envOfC qual scope s.heap.objs.size f cd::outer
 ex:=[]
 calm:=true
 fn:=λ_=>true
 pn:=[]
 xe:=λe s'=>wpAny (model P w) (A.deeper (envOfC qual scope s.heap.objs.size f cd)) (leaving (envOfC qual scope s.heap.objs.size f cd) e) (λ_ s''=>CX outer H s E e s'') (λe' s''=>CX outer H s E e' s'') s'
theorem ZhP {sc:Scope}{n:Nat}{x:Str} (h:sc.names.lookup x=some .cell):∃c,(cellsFrom n sc.names []).lookup x=some c:=by
 have q:=PySem.W.cellsFrom_some sc.names n [] (.inl h)
 exact Option.isSome_iff_exists.mp q
theorem Zj9 {CX:CXT}{P:Program}{w:World}{K:PySem.W.Frag}{mg:Str->Option Value}{base:Heap}{N ps:List Str}{qual:Str}{scope:Scope}{f:Addr}{cd:Value}{A:Around}{outer:List Env}{s s1:Shared}{H:Hp}{E:XK}{us:List Value}{vs:List V}
  (S:FnScope N ps scope) (hd:A.handled=none) (e0:Env0 P w K mg base A outer s H) (hl:vs.length=ps.length) (r:Vals vs us)
  (x:InCallC s s.heap.objs.size (bindL (envOfC qual scope s.heap.objs.size f cd).kindOf (ps.zip us) λ_=>none) (cellsFrom (s.heap.objs.size+1) scope.names []) (bindC (envOfC qual scope s.heap.objs.size f cd).kindOf (ps.zip us) λ_=>none) s1) :
  Inv (Ze6 CX P w K mg base N qual scope f cd A outer s H E) [] (start N vs) H s1:=by
 have hpl:ps.length<=N.length:=by have:=congrArg List.length S.pre;rw[Y4]at this;omega
 obtain⟨h1,tk,rfl,hk⟩:=x.done
 have noA:∀b:Addr,b∉(Ze6 CX P w K mg base N qual scope f cd A outer s H E).ex:=λb z=>absurd (show b∈([]:List Addr)from z) (by simp)
 refine⟨⟨e0.mod,S.kind,rfl,rfl,Yd _,λy z c h1 h2=>?_,λy hy=>?_,λy c _ h=>?_,λ_=>hd,Around.frames_deeper e0.frames,.inr ⟨rfl,rfl⟩,λb z=>absurd z (noA b),e0.bs,e0.bsz,λb _ _=>noA b,λb z=>absurd z (noA b),e0.funs,e0.frf⟩,
  rfl,e0.bare,Un.kept hk,⟨_,x.toInCall.ns,λi y v h1 h2 h3=>?_⟩,λy c h=>⟨_,x.cell y c h⟩,e0.hok.fresh (Yd _),λy c h=>?_,λp hp=>absurd (show p∈([]:List (Addr×Obj))from hp) (by simp),e0.hok.kept hk,?_⟩
 ·exact name_of_addr x.apart (PySem.mem_of_lookup h1) (PySem.mem_of_lookup h2)
 ·have hy:scope.names.lookup y=some .cell\/scope.names.lookup y=some .free:=hy
  rcases hy with hy|hy
  ·exact ZhP hy
  ·exact absurd rfl (S.nofree _ (PySem.mem_of_lookup hy))
 ·exact YX (x.above y c (PySem.mem_of_lookup h))
 ·have hi:i<vs.length:=by
   unfold start at h2
   by_cases hi:i<vs.length
   ·exact hi
   ·rw[Y1 (by simpa using hi)]at h2
    rw[List.getElem?_replicate]at h2
    split at h2<;>cases h2
  have ha:vs[i]?=some v:=by
   unfold start at h2
   rw[Y5 (by simpa using hi),YB]at h2
   cases e:vs[i]? with
   |none=>rw[e]at h2;cases h2
   |some a=>rw[e]at h2;cases h2;rfl
  obtain⟨u,hu,rv⟩:=r.get ha
  have hp:ps[i]?=some y:=by
   rw[<-S.pre,List.getElem?_take_of_lt (by omega)];exact h1
  have ndP:ps.Nodup:=by rw[<-S.pre];exact S.nd.sublist (List.take_sublist _ _)
  refine⟨u,rv,?_⟩
  rcases S.par y (List.mem_of_getElem? hp)with k|k
  ·exact .inl ⟨k,ZgA ndP hp hu k⟩
  ·obtain⟨c,e⟩:=ZhP (n:=s.heap.objs.size+1) k
   refine .inr ⟨.inl k,c,e,?_⟩
   have q:=x.cell y c e
   rw[ZgB ndP hp hu (by show scope.names.lookup y≠_;rw[k];decide)]at q
   exact q
 ·exact e0.hok.fresh (YX (x.above y c (PySem.mem_of_lookup h)))
 ·unfold start
  show _=N.length
  rw[Yu,Yh,List.length_replicate]
  omega
theorem fn_of {CX:CXT}{P:Program}{w:World}{K:PySem.W.Frag}{mg:Str->Option Value}{base:Heap}{k:Nat}{f:Addr}{name qual:Str}{params:Arguments}{body:List Stmt}{scope:Scope}{dV kV doc pm cdv ct oc:Value}{an od:Option Addr}
  {osl:Array (Option Value)}{N ps:List Str}{sp:Sp} (lk:K.lookup f=some ⟨oc,od,.func (PySem.W.fnOf name qual params body scope dV kV doc pm an cdv ct),osl⟩) (hcd:PySem.W.codeIn K cdv qual=true) (S:FnScope N ps scope)
  (len:∀vs H Q E,sp vs H Q E->vs.length=ps.length)
  (hbody:∀(A:Around) (outer:List Env) (s:Shared) (H:Hp) (vs:List V) (Q:VK) (E:XK),Room k (A.deeper (envOfC qual scope s.heap.objs.size f cdv))->sp vs H Q E ->
   ∃t,PSs (Ze6 CX P w K mg base N qual scope f cdv A outer s H E) body t/\t {nx:=λ_ H'=>Q .non H',rt:=Q} (start N vs) H) :
  FnOk P w K mg base CX (k+1) f (PySem.W.fnOf name qual params body scope dV kV doc pm an cdv ct) ps sp:=by
 refine⟨len,λA outer s H args us vs Q E hr e0 hb r hsp=>?_⟩
 have hl:=len _ _ _ _ hsp
 have KX:K.In s.heap:=e0.mod.kin.keeps λb o e=>(e0.bs b o e).1
 have lim:s.heap.NoLimit:=e0.mod.nolimit.keeps λb o e=>(e0.bs b o e).1
 have hkind:∀y∈ps.zip us,scope.names.lookup y.1=some .local\/(scope.names.lookup y.1=some .cell/\((cellsFrom (s.heap.objs.size+1) scope.names []).lookup y.1).isSome=true):=λ⟨n,v⟩ hy=>by
  rcases S.par n (List.of_mem_zip hy).1 with q|q
  ·exact .inl q
  ·exact .inr ⟨q,PySem.W.cellsFrom_some _ _ _ (.inl q)⟩
 refine codeAny_call_function hr.depth (KX _ _ lk) rfl S.co S.gen rfl (PySem.W.codeRec_of KX hcd) (hb _ _ _ _ ?_)
 refine wpAny_newFunctionEnv_cells S.kind hkind λenv he s1 x=>?_
 subst he
 refine⟨lim.keeps x.toInCall.keep,codeAny_func ?_⟩
 obtain⟨t,ht,hq⟩:=hbody A outer s H vs Q E (hr.deeper _) hsp
 have I:Inv (Ze6 CX P w K mg base N qual scope f cdv A outer s H E) [] (start N vs) H s1:=Zj9 S hr.hd e0 hl r x
 refine YT (ht [] s1 (start N vs) H _ I hq) (λfl s' hs=>?_) λe s' hs=>hs
 have fin:∀{σ':St}{H':Hp}{v:V}{u:Value},Inv (Ze6 CX P w K mg base N qual scope f cdv A outer s H E) [] σ' H' s'->RelV v u->Q v H'->CE outer P w H s Q u s' :=
  λ{σ' H' v u} J rv q=>⟨v,H',J.os,J.bare,J.base,J.hok,rv,q⟩
 cases fl with
 |ret u =>
  obtain⟨v,σ',H',J,rv,q⟩:=hs
  exact fin J rv q
 |next =>
  obtain⟨σ',H',J,q⟩:=hs
  exact fin (v:=V.non) (u:=Value.none) J rfl q
 |brk =>
  obtain⟨_,_,_,q⟩:=hs
  exact False.elim q
 |cont =>
  obtain⟨_,_,_,q⟩:=hs
  exact False.elim q
section
variable {X:Cx}{x:Str}{p pos:Pos}{e:Expr}{es:List Expr}{t:TA}{id T:String}{r:List V->Hp->VK->Prop}
noncomputable def tCB (r:List V->Hp->VK->Prop) (t:TA):TE:=fun σ H Q=>t σ H λvs H1=>r vs H1 Q
theorem Zi (hc:Za7 X (.builtin id) r) (hg:Gl X x) (hm:X.mg x=none) (hv:bootBuiltins x=some (.builtin id)) (ha:PA X (e::es) t) (hn:x≠"__name__":=by decide) (hdb:(x==("__debug__":Str))=false:=by decide)
  (he:starEach (e::es) X.env=(false,eval e X.env)::starEach es X.env:=by rfl) (hpl:(backTo pos (starEach es X.env)).any (·.1)=false:=by rfl):PE X (.Call (.Name x p) (e::es) [] pos) (tCB r t):=by
 intro pins s σ H Q I h
 refine wpAny_Call_Name_kw (Zdq I hg hm hv ?_ hn hdb)
 exact PyProof.Rows.callWith_builtin1 (thn (ha pos pins s σ H _ I h) λus s1 ⟨vs,H1,I1,r1,q1⟩=>hc pins s1 σ H1 vs us Q I1 r1 q1) he hpl
theorem Zal (hc:Za7 X (.type T) r) (hg:Gl X x) (hm:X.mg x=none) (hv:bootBuiltins x=some (.type T)) (ha:PA X (e::es) t) (hn:x≠"__name__":=by decide) (hdb:(x==("__debug__":Str))=false:=by decide)
  (he:starEach (e::es) X.env=(false,eval e X.env)::starEach es X.env:=by rfl) (hpl:(backTo pos (starEach es X.env)).any (·.1)=false:=by rfl):PE X (.Call (.Name x p) (e::es) [] pos) (tCB r t):=by
 intro pins s σ H Q I h
 refine wpAny_Call_Name_kw (Zdq I hg hm hv ?_ hn hdb)
 exact PyProof.Rows.callWith_type1 (thn (ha pos pins s σ H _ I h) λus s1 ⟨vs,H1,I1,r1,q1⟩=>hc pins s1 σ H1 vs us Q I1 r1 q1) he hpl
end
end L2
namespace HT
open PySem PyProof.Rows
section
open PySem.SeqAt
open PySem.AutoSeq1 (wpAny_loadPart')
open PySem.MeetsSeq PySem.MeetsSeq2 PySem.MeetsSeq3
end
end HT
namespace L2
open PySem PySem.Spec PyProof.Rows
noncomputable abbrev TO:=St->Hp->(Option Int->Hp->Prop)->Prop
theorem intsAre_of {ns:List Int}:∀{us:List Value},Vals (ns.map V.int) us->IntsAre us ns:=by
 induction ns with
 |nil=>intro us r;rw[List.map_nil]at r;cases r;exact .nil
 |cons n ns ih =>
  intro us r
  rw[YC]at r
  cases r with
  |cons r1 r2 =>
   obtain⟨t,e⟩:=r1
   subst e
   exact .cons n t (ih r2)
noncomputable def ixN (n:Nat) (i:Int):Option Nat:=if 0<=i then (if i<n then some i.toNat else none)else if -(n:Int)<=i then some (i+n).toNat else none
noncomputable def atI {α:Type} (xs:List α) (i:Int):Option α:=(ixN xs.length i).bind λj=>xs[j]?
theorem Zjz {n:Nat}{i:Int}{j:Nat} (h:ixN n i=some j):seqIndex? i n=some j/\j<n/\-(n:Int)<=i/\i<n:=by
 unfold ixN at h
 by_cases h0:0<=i
 ·rw[Yc h0]at h
  by_cases h1:i<n
  ·rw[Yc h1]at h
   have e:i.toNat=j:=YA h
   exact⟨by rw[seqIndex_of h0 h1,e],by omega,by omega,h1⟩
  ·rw[Yb h1]at h;cases h
 ·rw[Yb h0]at h
  by_cases h1:-(n:Int)<=i
  ·rw[Yc h1]at h
   have e:(i+n).toNat=j:=YA h
   exact⟨by rw[seqIndex_neg (by omega) h1,e],by omega,h1,by omega⟩
  ·rw[Yb h1]at h;cases h
theorem Zfg {α:Type}{xs:List α}{i:Int}{v:α} (h:atI xs i=some v):∃j,seqIndex? i xs.length=some j/\xs[j]?=some v/\j<xs.length/\-(xs.length:Int)<=i/\i<xs.length:=by
 unfold atI at h
 cases e:ixN xs.length i with
 |none=>rw[e]at h;cases h
 |some j =>
  rw[e]at h
  obtain⟨h1,h2,h3,h4⟩:=Zjz e
  exact⟨j,h1,h,h2,h3,h4⟩
noncomputable def ZmO (b:Expr):Prop:=∀o i,subscripted b false o i=operate [o,i] (getItem o i)
noncomputable def IxR (X:Cx) (r:R2):Prop :=
 ∀(value slice:Expr) (pins:List (Addr×Obj)) (s:Shared) (σ:St) (H:Hp) (x y:V) (v u:Value) (Q:VK),Inv X pins σ H s->RelV x v->RelV y u->r x y H Q ->
  subscripted slice false v u=operate [v,u] (getItem v u)->wpAny (model X.prog X.w) X.A (subscriptTail value slice v u) (EP X pins σ Q) X.xe s
noncomputable def MtR (X:Cx) (id:String) (r:V->List V->Hp->VK->Prop):Prop :=
 ∀(pins:List (Addr×Obj)) (s:Shared) (σ:St) (H:Hp) (x:V) (xs:List V) (v:Value) (us:List Value) (Q:VK),Inv X pins σ H s->RelV x v->Vals xs us->r x xs H Q ->
  wpAny (model X.prog X.w) X.A (call (.builtin id) (v::us)) (EP X pins σ Q) X.xe s
section
variable {X:Cx}{a b:Expr}{ta tb:TE}{pos:Pos}
theorem IxR.or {r r':R2} (h:IxR X r) (h':IxR X r'):IxR X (λx y H Q=>r x y H Q\/r' x y H Q):=by
 intro value slice pins s σ H x y v u Q I rx ry q hs
 rcases q with q|q
 ·exact h value slice pins s σ H x y v u Q I rx ry q hs
 ·exact h' value slice pins s σ H x y v u Q I rx ry q hs
theorem Za8 {r:R2} (hr:IxR X r) (ha:PE X a ta) (hb:PE X b tb) (hs:ZmO b):PE X (.Subscript a b pos) (tOp r ta tb):=by
 intro pins s σ H Q I h
 exact Subscript_ (binT ha hb I h λv u s2 x y H2 I2 rx ry q=>hr a b pins s2 σ H2 x y v u Q I2 rx ry q (hs _ _))
noncomputable def rIxL (K:PySem.W.Frag):R2:=λx y H Q=>∃p xs i v,x=.ref p/\y=.int i/\SqL K H p xs/\atI xs i=some v/\Q v H
noncomputable def rIxT (K:PySem.W.Frag):R2:=λx y H Q=>∃p xs i v,x=.ref p/\y=.int i/\SqT K H p xs/\atI xs i=some v/\Q v H
noncomputable def rIxS:R2:=λx y H Q=>∃z i c,x=.str z/\y=.int i/\z.length<=sizeLine/\atI z.cps.toList i=some c/\Q (.str ⟨#[c]⟩) H
theorem Zat:IxR X (rIxL X.K):=by
 intro value slice pins s σ H x y v u Q I rx ry h hs
 obtain⟨p,xs,i,z,rfl,rfl,hq,he,q⟩:=h
 cases rx
 obtain⟨t,rfl⟩:=ry
 obtain⟨its,r,pl,hz⟩:=I.list hq
 obtain⟨j,h1,h2,h3,h4,h5⟩:=Zfg he
 obtain⟨w,ew,rw'⟩:=r.get h2
 have hl:=r.length
 have hn:=Zds
 have fin:EP X pins σ Q w s:=⟨z,H,I,rw',q⟩
 by_cases h0:0<=i
 ·have hj:i.toNat=j:=by
   rw[seqIndex_of h0 h5]at h1
   exact YA h1
  exact item_listR pl.isList h0 (by omega) (by rw[hj];simpa using ew) fin hs
 ·have hj:(i+(its.toArray.size:Int)).toNat=j:=by
   rw[seqIndex_neg (by omega) h4]at h1
   rw[Yv,<-hl]
   exact YA h1
  exact subscriptTail_builtinR (x:=w) pl.isList.typeIs slot_list_getitem.lookup
   (wpAny_getItem_list_neg (Q:=λr s'=>r=w/\EP X pins σ Q r s') pl.isList (by omega) (by rw[Yv]<;>omega) (by omega) (by rw[hj];simpa using ew) ⟨rfl,fin⟩) hs
theorem Zhd:IxR X (rIxT X.K):=by
 intro value slice pins s σ H x y v u Q I rx ry h hs
 obtain⟨p,xs,i,z,rfl,rfl,hq,he,q⟩:=h
 cases rx
 obtain⟨t,rfl⟩:=ry
 obtain⟨its,r,pl,hz⟩:=I.tuple hq
 obtain⟨j,h1,h2,h3,h4,h5⟩:=Zfg he
 obtain⟨w,ew,rw'⟩:=r.get h2
 have hl:=r.length
 have hn:=Zds
 have fin:EP X pins σ Q w s:=⟨z,H,I,rw',q⟩
 exact subscriptTail_builtinR (x:=w) pl.typeIs slot_tuple_getitem.lookup
  (getItem_tuple (j:=j) (Q:=λr s'=>r=w/\EP X pins σ Q r s') pl (by omega) (by omega) (by rw[Yv,<-hl];exact h1) (by simpa using ew) ⟨rfl,fin⟩) hs
theorem ix_str:IxR X rIxS:=by
 intro value slice pins s σ H x y v u Q I rx ry h hs
 obtain⟨z,i,c,rfl,rfl,hz,he,q⟩:=h
 obtain⟨t,rfl⟩:=rx
 obtain⟨t',rfl⟩:=ry
 obtain⟨j,h1,h2,h3,h4,h5⟩:=Zfg he
 have hl:z.cps.toList.length=z.length:=by simp[Str.length]
 rw[hl]at h1 h4 h5
 have hn:=Zds
 exact tail_any (typeIs_str s z t) slot_str_getitem.lookup (getItem_str (c:=c) (by
  have e1:decide (i < -(2 ^ 63:Int))=false:=YQ (by omega)
  have e2:decide (i ≥ 2 ^ 63)=false:=YQ (by omega)
  rw[e1,e2,Bool.or_false]) (by rw[h1];simpa using h2) ⟨.str ⟨#[c]⟩,H,I.tok _,⟨_,rfl⟩,q⟩) hs
theorem ZiS (its:List Value) (n j:Nat) (u:Value):Obj.mapSeq (·.setIfInBounds j u) {cls:=.type "list",data:=.seq its.toArray n}={cls:=.type "list",data:=.seq (its.set j u).toArray n}:=by
 simp[Obj.mapSeq]
theorem Inv.lst {pins:List (Addr×Obj)}{σ:St}{H:Hp}{s:Shared}{p:Addr}{xs:List V} (I:Inv X pins σ H s) (h:H p=some (.lst xs)) :
  ∃(its:List Value) (n:Nat),Vals xs its/\s.heap.get? p=some {cls:=.type "list",data:=.seq its.toArray n}/\xs.length<=sizeLine:=by
 obtain⟨z,its,n,r,e⟩:=I.hok p _ h
 exact⟨its,n,r,e,z⟩
theorem Inv.lstUpd {pins:List (Addr×Obj)}{σ:St}{H:Hp}{s:Shared}{p:Addr}{xs ys:List V}{its its':List Value}{n n':Nat}{f:Obj->Obj} (I:Inv X pins σ H s) (h:H p=some (.lst xs))
  (ho:s.heap.get? p=some {cls:=.type "list",data:=.seq its.toArray n}) (hf:f {cls:=.type "list",data:=.seq its.toArray n}={cls:=.type "list",data:=.seq its'.toArray n'}) (r:Vals ys its') (hz:ys.length<=sizeLine) (t:Nat) :
  Inv X pins σ (upd H p (.lst ys)) {s with heap:=s.heap.update p f,toks:=t}:=by
 have e:(s.heap.update p f).get? p=some {cls:=.type "list",data:=.seq its'.toArray n'}:=by
  rw[Heap.get?_update_self f ho (by rw[hf]<;>rfl),hf]
 refine I.write (x:=p) (e:=p) (by rw[h];trivial) (.inl rfl) (λb u hb q=>(Heap.get?_update_other _ _ (Ne.symm hb)).trans q) ⟨_,e⟩ ?_
 exact⟨hz,its',n',r,e⟩
noncomputable def rSetL:V->V->V->Hp->(Hp->Prop)->Prop:=λo i v H Q=>∃p xs k j,o=.ref p/\i=.int k/\H p=some (.lst xs)/\ixN xs.length k=some j/\Q (upd H p (.lst (xs.set j v)))
theorem set_list:PSet X rSetL:=by
 intro pins s σ H o i v ov iv u Q I ro ri rv h
 obtain⟨p,xs,k,j,rfl,rfl,hp,hj,q⟩:=h
 cases ro
 obtain⟨t,rfl⟩:=ri
 obtain⟨its,n,r,ho,hz⟩:=I.lst hp
 obtain⟨h1,h2,h3,h4⟩:=Zjz hj
 have hl:=r.length
 have hn:=Zds
 have I':Inv X pins σ (upd H p (.lst (xs.set j v))) {s with heap:=s.heap.update p (Obj.mapSeq (·.setIfInBounds j u))} :=
  I.lstUpd hp ho (ZiS its n j u) (r.set rv j) (by rw[List.length_set];exact hz) s.toks
 by_cases h0:0<=k
 ·have hk:k.toNat=j:=by
   rw[seqIndex_of h0 h4]at h1
   exact YA h1
  exact PySem.W.ki_setAt ho h0 (by omega) (by rw[Yv,<-hl];exact h4) (by rw[hk];exact⟨_,I',q⟩)
 ·have hk:(k+(its.toArray.size:Int)).toNat=j:=by
   rw[seqIndex_neg (by omega) h3]at h1
   rw[Yv,<-hl]
   exact YA h1
  exact PySem.W.ki_setBack ho (by omega) (by rw[Yv,<-hl];exact h3) (by omega) (by rw[hk];exact⟨_,I',q⟩)
noncomputable def flatV:V->Bool
 |.non=>true
 |.bl _=>true
 |.int _=>true
 |.str _=>true
 |_=>false
noncomputable def eqV:V->V->Bool
 |.non,.non=>true
 |.bl a,.bl b=>a==b
 |.bl a,.int b=>(if a then 1 else 0)==b
 |.int a,.bl b=>a==(if b then 1 else 0)
 |.int a,.int b=>a==b
 |.str a,.str b=>a==b
 |_,_=>false
theorem Zlm {A:Around}{s:Shared}{y x:V}{u v:Value} (ry:RelV y u) (rx:RelV x v) (fy:flatV y=true) (fx:flatV x=true):SeqAt.EqAt A s u v (eqV y x):=by
 cases y with
 |non =>
  cases ry
  cases x with
  |non=>cases rx;exact SeqAt.EqAt.same _
  |bl b=>cases rx;exact SeqAt.EqAt.none_bool b
  |int b=>obtain⟨t,rfl⟩:=rx;exact SeqAt.EqAt.none_int b t
  |str b=>obtain⟨t,rfl⟩:=rx;exact SeqAt.EqAt.none_str b t
  |_=>exact absurd (show false=true from fx) Yx
 |bl a =>
  cases ry
  cases x with
  |non=>cases rx;exact SeqAt.EqAt.bool_none a
  |bl b=>cases rx;exact SeqAt.EqAt.bool_bool a b
  |int b=>obtain⟨t,rfl⟩:=rx;exact SeqAt.EqAt.bool_int a b t
  |str b=>obtain⟨t,rfl⟩:=rx;exact SeqAt.EqAt.bool_str a b t
  |_=>exact absurd (show false=true from fx) Yx
 |int a =>
  obtain⟨t',rfl⟩:=ry
  cases x with
  |non=>cases rx;exact SeqAt.EqAt.int_none a t'
  |bl b=>cases rx;exact SeqAt.EqAt.int_bool a t' b
  |int b=>obtain⟨t,rfl⟩:=rx;exact SeqAt.EqAt.int_int a t' b t
  |str b=>obtain⟨t,rfl⟩:=rx;exact SeqAt.EqAt.int_str a t' b t
  |_=>exact absurd (show false=true from fx) Yx
 |str a =>
  obtain⟨t',rfl⟩:=ry
  cases x with
  |non=>cases rx;exact SeqAt.EqAt.str_none a t'
  |bl b=>cases rx;exact SeqAt.EqAt.str_bool a t' b
  |int b=>obtain⟨t,rfl⟩:=rx;exact SeqAt.EqAt.str_int a t' b t
  |str b=>obtain⟨t,rfl⟩:=rx;exact SeqAt.EqAt.str_str a t' b t
  |_=>exact absurd (show false=true from fx) Yx
 |_=>exact absurd (show false=true from fy) Yx
noncomputable def eqU (x:V) (u:Value):Bool:=match u with
 |.none=>eqV .non x
 |.bool b=>eqV (.bl b) x
 |.int i _=>eqV (.int i) x
 |.str z _=>eqV (.str z) x
 |_=>false
theorem Zln {x y:V}{u:Value} (r:RelV y u) (f:flatV y=true):eqU x u=eqV y x:=by
 cases y with
 |non=>cases r;rfl
 |bl b=>cases r;rfl
 |int i=>obtain⟨t,rfl⟩:=r;rfl
 |str z=>obtain⟨t,rfl⟩:=r;rfl
 |_=>exact absurd (show false=true from f) Yx
theorem Zhe {x:V}:∀{xs:List V}{us:List Value},Vals xs us->xs.all flatV=true->us.any (eqU x)=xs.any λy=>eqV y x
 |_,_,.nil,_=>rfl
 |y::xs,u::us,.cons r t,f=>by
  rw[List.all_cons,Bool.and_eq_true]at f
  rw[List.any_cons,List.any_cons,Zln r f.1,Zhe t f.2]
theorem Zfp {A:Around}{s:Shared}{x:V}{v:Value} (rx:RelV x v) (fx:flatV x=true):∀{xs:List V}{us:List Value},Vals xs us->xs.all flatV=true->∀u∈us,SeqAt.EqAt A s u v (eqU x u)
 |_,_,.nil,_=>λu hu=>by cases hu
 |y::xs,u::us,.cons r t,f=>λu' hu=>by
  rw[List.all_cons,Bool.and_eq_true]at f
  rcases Yj.mp hu with rfl|hu
  ·rw[Zln r f.1];exact Zlm r rx f.1 fx
  ·exact Zfp rx fx t f.2 u' hu
noncomputable def inV (x:V) (xs:List V):Bool:=xs.any λy=>eqV y x
noncomputable def rIn (K:PySem.W.Frag) (neg:Bool):R2:=λx y H Q=>∃p xs,y=.ref p/\(SqL K H p xs\/SqT K H p xs)/\flatV x=true/\xs.all flatV=true/\Q (.bl (if neg then !inV x xs else inV x xs)) H
theorem Zhf:OpR X (compareOp .NotIn) (rIn X.K true):=by
 intro pins s σ H x y v u Q I rx ry h
 obtain⟨p,xs,rfl,hq,fx,fs,q⟩:=h
 cases ry
 rcases hq with hq|hq
 ·obtain⟨its,r,pl,hz⟩:=I.list hq
  refine SeqAt.notIn_listAt (eqU x) pl.isList (λw hw=>Zfp rx fx r fs w (by simpa using hw)) ⟨.bl _,H,I,rfl,?_⟩
  rw[show its.toArray.any (eqU x)=its.any (eqU x) by simp,Zhe r fs]
  exact q
 ·obtain⟨its,r,pl,hz⟩:=I.tuple hq
  refine SeqAt.notIn_tupleAt (eqU x) pl (λw hw=>Zfp rx fx r fs w (by simpa using hw)) ⟨.bl _,H,I,rfl,?_⟩
  rw[show its.toArray.any (eqU x)=its.any (eqU x) by simp,Zhe r fs]
  exact q
theorem Zhg:Za7 X (.builtin "len") (λxs H Q=>∃p ys,xs=[.ref p]/\(SqL X.K H p ys\/SqT X.K H p ys)/\Q (.int ys.length) H):=by
 intro pins s σ H xs us Q I r h
 obtain⟨p,ys,rfl,hq,q⟩:=h
 obtain⟨u,rfl,rx⟩:=vals1 r
 cases rx
 have hn:=Zds
 rcases hq with hq|hq
 ·obtain⟨its,r',pl,hz⟩:=I.list hq
  have hlen:=r'.length
  exact Calls.call_len_list pl.isList (by simp only[Yv]<;>omega) ⟨.int ys.length,H,I.tok _,⟨s.toks+1,by rw[Yv,hlen]⟩,q⟩
 ·obtain⟨its,r',pl,hz⟩:=I.tuple hq
  have hlen:=r'.length
  exact len_tuple pl (by simp only[Yv]<;>omega) ⟨.int ys.length,H,I.tok _,⟨s.toks+1,by rw[Yv,hlen]⟩,q⟩
theorem Zgi:Za7 X (.type "tuple") (λxs H Q=>∃p ys,xs=[.ref p]/\((SqL X.K H p ys/\∀l,H l=none->Q (.ref l) (upd H l (.tup ys)))\/(SqT X.K H p ys/\Q (.ref p) H))):=by
 intro pins s σ H xs us Q I r h
 obtain⟨p,ys,rfl,h⟩:=h
 obtain⟨u,rfl,rx⟩:=vals1 r
 cases rx
 rcases h with⟨hq,q⟩|⟨hq,q⟩
 ·obtain⟨its,r',pl,hz⟩:=I.list hq
  have hlen:=r'.length
  refine call_tuple_list pl.isList (λh' kp=>?_) (by simp only[Yv]<;>omega)
  have I1:Inv X pins σ H {s with heap:=h'}:=I.kept (t':=s.toks) kp
  have I2:Inv X pins σ (upd H h'.objs.size (.tup ys)) {s with heap:=h'.push {cls:=.type "tuple",data:=.seq its.toArray}} :=
   I1.laid (t':=s.toks) (λb o e=>Ym _ e) (Yd _) (show ZX X.prog X.w _ _ _ (.tup ys)from⟨hz,its,r',IsTup.new _ _⟩)
  exact⟨.ref h'.objs.size,_,I2,rfl,q _ (I1.hok.fresh (Yd _))⟩
 ·obtain⟨its,r',pl,hz⟩:=I.tuple hq
  exact call_tuple_same pl ⟨.ref p,H,I,rfl,q⟩
noncomputable def tyV (K:PySem.W.Frag) (T:String) (x:V) (H:Hp):Prop:=match x with
 |.str _=>T="str"
 |.int _=>T="int"
 |.ref p=>(T="list"/\∃xs,SqL K H p xs)\/(T="tuple"/\∃o,K.lookup p=some o/\o.cls=.type "tuple"/\o.dict=none) \/
   (T="dict"/\((∃kvs,H p=some (.dK kvs))\/∃kvs,H p=some (.dT kvs)))\/(T="set"/\∃S n,H p=some (.set S n))
 |_=>False
theorem tyV_is {pins:List (Addr×Obj)}{σ:St}{H:Hp}{s:Shared}{T:String}{x:V}{v:Value} (I:Inv X pins σ H s) (r:RelV x v) (ty:tyV X.K T x H) :
  s.TypeIs v T/\∀a,v=.ref a->∃ob,s.heap.get? a=some ob/\ob.dict=none:=by
 cases x with
 |str z =>
  obtain⟨t,rfl⟩:=r
  cases(show T="str" from ty)
  exact⟨typeIs_str s z t,λ_ e=>nomatch e⟩
 |int i =>
  obtain⟨t,rfl⟩:=r
  cases(show T="int" from ty)
  exact⟨typeIs_int s i t,λ_ e=>nomatch e⟩
 |ref p =>
  cases r
  rcases ty with⟨rfl,xs,hq⟩|⟨rfl,o,hk,hc,hd⟩|⟨rfl,hk⟩|⟨rfl,S,n,hk⟩
  ·obtain⟨its,_,pl,_⟩:=I.list hq
   refine⟨pl.isList.typeIs,λa e=>?_⟩
   cases e
   obtain⟨o,n,e,c,hd,_⟩:=pl
   exact⟨o,e,hd⟩
  ·refine⟨⟨o,I.kIn p o hk,hc⟩,λa e=>?_⟩
   cases e
   exact⟨o,I.kIn _ o hk,hd⟩
  ·have z:∃o,s.heap.get? p=some o/\o.ExactDict:=by
    rcases hk with⟨kvs,hk⟩|⟨kvs,hk⟩
    ·obtain⟨_,_,_,_,o,_,_,e,ex,_⟩:=I.hok p _ hk
     exact⟨o,e,ex⟩
    ·obtain⟨_,_,_,_,o,_,_,e,ex,_⟩:=I.hok p _ hk
     exact⟨o,e,ex⟩
   obtain⟨o,e,ex⟩:=z
   refine⟨⟨o,e,ex.1⟩,λa e2=>?_⟩
   cases e2
   exact⟨o,e,ex.2.1⟩
  ·obtain⟨o,_,_,_,e,ex,_⟩:=I.hok p _ hk
   refine⟨⟨o,e,ex.1⟩,λa e2=>?_⟩
   cases e2
   exact⟨o,e,ex.2.1⟩
 |_=>exact False.elim ty
noncomputable def tBM (K:PySem.W.Frag) (T:String) (r:V->List V->Hp->VK->Prop) (to:TE) (t:TA):TE:=fun σ H Q=>to σ H λx H1=>tyV K T x H1/\t σ H1 λxs H2=>r x xs H2 Q
variable {o e:Expr}{es:List Expr}{to:TE}{t:TA}{name:Str}{apos cpos:Pos}{T id:String}{r:V->List V->Hp->VK->Prop}
theorem Zcy (pa:PlainAttrs T) (slot:Slot T name id) (hty:typeOf (.builtin id)=pure (.type "method_descriptor")) (hm:MtR X id r) (ho:PE X o to) (ha:PA X (e::es) t)
  (hbase:attributeBase o name X.env (eval o X.env)=eval o X.env:=by rfl)
  (hfew:((backTo cpos (starEach (e::es) X.env)).all (λx=>!x.1)&&(backToKw cpos (keywordEach [] X.env)).all (λx=>x.1.isSome)
   && decide ((e::es).length+([]:List Keyword).length+(if ([]:List Keyword).isEmpty then 0 else 1)<30))=true:=by rfl)
  (hline:(apos.endLine==cpos.line)=true:=by rfl) (hs:starEach (e::es) X.env=(false,eval e X.env)::starEach es X.env:=by rfl) (hplain:(backTo cpos (starEach es X.env)).any (·.1)=false:=by rfl) :
  PE X (.Call (.Attribute o name apos) (e::es) [] cpos) (tBM X.K T r to t):=by
 intro pins s σ H Q I h
 refine wpAny_Call_method_late hbase hfew hline rfl (thn (ho pins s σ H _ I h) λv s1 ⟨x,H1,I1,r1,ty,q1⟩=>?_)
 obtain⟨h1,h2⟩:=tyV_is I1 r1 ty
 refine⟨T,id,pa,slot,hty,h1,h2,?_⟩
 have hA:=ha cpos pins s1 σ H1 _ I1 q1
 rw[hs]at hA⊢
 refine Calls.callWith_builtin (by show(false||(backTo cpos (starEach es X.env)).any (·.1))=false;rw[hplain]<;>rfl) (Calls.evalArgs_plain ?_)
 exact thn hA λus s2 ⟨vs,H2,I2,r2,q2⟩=>hm pins s2 σ H2 x vs v us Q I2 r1 r2 q2
end
noncomputable def MtM (X:Cx) (id:String) (r:V->List V->Hp->VK->Prop):Prop :=
 ∀(pins:List (Addr×Obj)) (s:Shared) (σ:St) (H:Hp) (x:V) (xs:List V) (v:Value) (us:List Value) (Q:VK),Inv X pins σ H s->RelV x v->Vals xs us->r x xs H Q ->
  wpAny (model X.prog X.w) X.A (call (.builtin id) (v::us)) (EP X pins σ Q) X.xe s
theorem Vals.one:∀{x:V}{us:List Value},Vals [x] us->∃u,us=[u]/\RelV x u
 |_,_,.cons r .nil=>⟨_,rfl,r⟩
theorem Vals.two:∀{x y:V}{us:List Value},Vals [x,y] us->∃u v,us=[u,v]/\RelV x u/\RelV y v
 |_,_,_,.cons r (.cons q .nil)=>⟨_,_,rfl,r,q⟩
theorem Vals.rep {xs:List V}{us:List Value} (h:Vals xs us):∀k:Nat,Vals (List.replicate k xs).flatten (List.replicate k us).flatten
 |0=>.nil
 |k+1=>by
  rw[List.replicate_succ,List.replicate_succ,List.flatten_cons,List.flatten_cons]
  exact Vals.append h (Vals.rep h k)
theorem foldl_rep (its:List Value):∀(k:Nat) (acc:List Value),
  List.foldl (λx1 x2=>x1++x2) acc.toArray (List.replicate k its.toArray)=(acc++(List.replicate k its).flatten).toArray
 |0,acc=>by simp
 |k+1,acc=>by
  have e:acc.toArray++its.toArray=(acc++its).toArray:=by simp
  have e2:(acc++its)++(List.replicate k its).flatten=acc++(List.replicate (k+1) its).flatten:=by
   rw[List.replicate_succ,List.flatten_cons,YY]
  rw[<-e2,<-foldl_rep its k (acc++its),<-e,List.replicate_succ,List.foldl_cons]
section
variable {X:Cx}{pins:List (Addr×Obj)}{σ:St}{H:Hp}{s:Shared}{l b:Addr}{xs ys zs:List V}
theorem Inv.lset {its its':List Value}{n:Nat}{f:Array Value->Array Value}{t':Nat} (I:Inv X pins σ H s) (hH:H l=some (.lst xs))
  (e:s.heap.get? l=some {cls:=.type "list",data:=.seq its.toArray n}) (hf:f its.toArray=its'.toArray) (hv:Vals ys its') (hz:ys.length<=sizeLine) :
  Inv X pins σ (upd H l (.lst ys)) {s with heap:=s.heap.update l (Obj.mapSeq f),toks:=t'}:=by
 have q:=PySem.IsL.update e f
 rw[hf]at q
 refine I.write (x:=l) (e:=l) (by rw[hH];exact trivial) (.inl rfl) (λb' u hb hu=>(Heap.get?_update_other s.heap (Obj.mapSeq f) (Ne.symm hb)).trans hu) ⟨_,q⟩ ?_
 exact⟨hz,its',_,hv,q⟩
theorem Inv.lnew {its:List Value}{t':Nat} (I:Inv X pins σ H s) (hv:Vals ys its) (hz:ys.length<=sizeLine) :
  Inv X pins σ (upd H s.heap.objs.size (.lst ys)) {s with heap:=s.heap.push {cls:=.type "list",data:=.seq its.toArray},toks:=t'} :=
 I.laid (λ_ _ q=>Ym _ q) (Yd _) ⟨hz,its,0,hv,Yy _ rfl⟩
theorem Inv.fresh (I:Inv X pins σ H s):H s.heap.objs.size=none:=I.hok.fresh (Yd _)
theorem Inv.lstM (I:Inv X pins σ H s) (hH:H l=some (.lst xs)):xs.length<=sizeLine/\∃(its:List Value) (n:Nat),Vals xs its/\xs.length=its.length/\s.heap.get? l=some {cls:=.type "list",data:=.seq its.toArray n}:=by
 obtain⟨z,its,n,r,e⟩:=I.hok l _ hH
 exact⟨z,its,n,r,r.length,e⟩
theorem Zlo {n:Nat} (h:n<=sizeLine):Builtin.List.listTooLong n=false:=by
 unfold Builtin.List.listTooLong
 exact YQ (by omega)
end
section
variable {X:Cx}
noncomputable def rAppend:V->List V->Hp->VK->Prop:=λx vs H Q=>∃l xs y,x=.ref l/\vs=[y]/\H l=some (.lst xs)/\xs.length<sizeLine/\Q .non (upd H l (.lst (xs++[y])))
theorem Zbf:MtM X "list.append" rAppend:=by
 intro pins s σ H x vs v us Q I rx rv h
 obtain⟨l,xs,y,rfl,rfl,hH,hz,q⟩:=h
 cases rx
 obtain⟨u,rfl,ru⟩:=rv.one
 obtain⟨z,its,n,r,hl,e⟩:=I.lstM hH
 refine call_meets F.slot_list_append ⟨_,e,rfl⟩ F.entry_list_append (F.args_list_append_2 _ _) (PySem.list_append l its.toArray n u (by rw[Yv];omega)) ⟨e,?_⟩
 refine⟨.non,_,I.lset (its':=its++[u]) hH e (by simp) (r.append (.cons ru .nil)) ?_,rfl,q⟩
 rw[Yu,List.length_singleton]
 omega
noncomputable def rRep:R2:=λx y H Q=>∃l k xs,x=.ref l/\y=.int k/\H l=some (.lst xs)/\-(2 ^ 63)<=k/\k<2 ^ 63/\xs.length*k.toNat<=sizeLine /\
 ∀p,H p=none->Q (.ref p) (upd H p (.lst (List.replicate k.toNat xs).flatten))
theorem len_rep {α:Type} (xs:List α) (k:Nat):(List.replicate k xs).flatten.length=k*xs.length:=by
 induction k with
 |zero=>simp
 |succ k ih=>rw[List.replicate_succ,List.flatten_cons,Yu,ih,Nat.succ_mul,Nat.add_comm]
theorem Zhh:OpR X (binaryOp .Mult) rRep:=by
 intro pins s σ H x y v u Q I rx ry h
 obtain⟨l,k,xs,rfl,rfl,hH,h1,h2,hz,q⟩:=h
 cases rx
 obtain⟨t,rfl⟩:=ry
 obtain⟨z,its,n,r,hl,e⟩:=I.lstM hH
 have hlen:its.toArray.size*k.toNat<=sizeLine:=by rw[Yv,<-hl];exact hz
 have hcap:¬ its.toArray.size*k.toNat>(2 ^ 63-1) / 8:=by
  have:(sizeLine:Nat)<=(2 ^ 63-1) / 8:=by decide
  omega
 have hfit:¬ (!Builtin.List.listFitsIndex k)=true:=by
  rw[fitsIndex_both h1 h2]
  exact Yx
 have hlong:¬ Builtin.List.listTooLong (its.toArray.size*k.toNat)=true:=by
  rw[Zlo hlen]
  exact Yx
 have hnew:List.foldl (λx1 x2=>x1++x2) #[] (List.replicate (if its.toArray.isEmpty=true then 0 else k.toNat) its.toArray)=(List.replicate k.toNat its).flatten.toArray:=by
  have f0:∀m:Nat,List.foldl (λx1 x2=>x1++x2) #[] (List.replicate m its.toArray)=(List.replicate m its).flatten.toArray:=λm=>by
   have:=foldl_rep its m []
   rw[List.nil_append]at this
   exact this
  rw[f0]
  cases its with
  |nil=>simp
  |cons a r'=>rw[Yb (by simp)]
 refine wpAny_binaryOp_repeat_ref (T:="list") (U:="int") (by decide) ⟨_,e,rfl⟩ (λs'=>typeIs_int s' k t) noFill_list_mul F.fills_int_mul F.slot_int_rmul repeat_list F.slot_int_index.lookup
  (call_meets F.slot_int_rmul (typeIs_int s k t) F.entry_int_rmul (F.args_int_rmul_2 _ _) (int___rmul___int_list k t l its.toArray n)
   ⟨e,rfl,⟨_,e,rfl⟩,call_meets F.slot_list_mul ⟨_,e,rfl⟩ F.entry_list_mul (F.args_list_mul_2 _ _) (AutoListH.list___mul___list_int_3 l its.toArray n k t hfit hcap hlong) ⟨e,?_⟩⟩)
 rw[hnew]
 exact⟨.ref _,_,I.lnew (t':=s.toks) (r.rep k.toNat) (by rw[len_rep,Nat.mul_comm];exact hz),rfl,q _ I.fresh⟩
end
end L2
namespace Att
open PySem PySem.W PySem.Calls PyProof.Rows
theorem Ze7 {P:Params}{h:Heap}:∀(ns:List Int) (vs:List Value),WellAll P h vs (ns.map WData.int)->IntsAre vs ns:=by
 intro ns
 induction ns with
 |nil =>
  intro vs w
  rw[List.map_nil]at w
  cases w
  exact .nil
 |cons n ns ih =>
  intro vs w
  rw[YC]at w
  cases w with
  |cons a b =>
   cases a
   exact .cons _ _ (ih _ b)
theorem Zka {l:OpenLaw}{n:Nat} (hn:l.most=some n) {P:Params}{h:Heap}{args:List WData}{vals:List Value}
  (hpre:l.row.toRowW.claim.pre args=true) (hwl:WellAll P h vals args) :
  ∃a vs ns,vals=[Value.ref a]/\args=[WData.list (ns.map WData.int)]/\h.get? a=some {cls:=.type "list",data:=.seq vs.toArray}/\IntsAre vs ns/\ns.length<=n:=by
 have hsh:WShape.hasAll [] args [.list .int]=true:=(pre_splitW hpre).1
 have hc:l.pre.holds [] {args:=args}=true:=(pre_splitW hpre).2
 obtain⟨d,r,rfl,h1,h2⟩:=hasAllW_cons hsh
 obtain rfl:=hasAllW_nil h2
 obtain⟨xs,rfl,h3⟩:=hasW_list h1
 obtain⟨ns,rfl⟩:=items_int h3
 have hlen:ns.length<=n:=by
  unfold OpenLaw.pre at hc
  have h4:(WTm.not (.lt (.lit (.int (n:Int))) (.len (.arg 0)))).holds [] {args:=[.list (ns.map .int)]}=true:=by
   have h4:=(holds_andW hc).1
   rw[hn]at h4
   exact h4
  have h5:=condW_of h4 (w_not (w_lt w_lit (w_len_list (w_arg rfl))))
  rw[Yh]at h5
  refine Nat.le_of_not_lt λq=>?_
  have q':(n:Int)<((ns.length:Nat):Int):=by omega
  first
   |(rw[Y2 q']at h5;exact absurd h5 (by decide))
   |(simp at h5;omega)
 cases hwl with
 |cons w1 w2 =>
  cases w2
  cases w1 with
  |list ho hall=>exact⟨_,_,ns,rfl,rfl,ho,Ze7 ns _ hall,hlen⟩
theorem Zkb (l:OpenLaw) (args:List WData):l.row.toRowW.claim.post args (.bool true) args=true :=
 postW_of (r:=l.row.toRowW) (X:=(true==true))
  (show WShape.has [] (.bool true) .bool=true by first|rfl|decide|simp[WShape.has,WShape.arms,WShape.armsAll])
  (show(WTm.eq .res (.lit (.bool true))).value [] {args:=args,res:=some (.bool true),after:=args}=some (.bool (true==true))from w_eq_bool (w_res rfl) w_lit) rfl
theorem ZhQ {l:OpenLaw}{n:Nat}{q:Program}{loose:List Str}{XP:(Str->Option Value)->Heap->Prop}{YP:World->Heap->Prop}{d:DefRec}
  (hn:l.most=some n) (hdf:d.params.defaults=[])
  (call:∀(w:World) (s₀ s₁:Shared) (mg mb:Str->Option Value) (fa:Addr) (o:Obj) (pm cd doc:Value) (a:Addr) (vs:List Value) (ns:List Int),
   Ground q loose [] XP w s₀ mg mb s₁.heap->YP w s₁.heap ->
   s₁.heap.get? fa=some o->o.data=.func (docDef d.name d.params d.body d.scope pm cd doc)->s₁.heap.CodeRec cd d.name->mg d.name=some (.ref fa) ->
   s₁.heap.get? a=some {cls:=.type "list",data:=.seq vs.toArray}->IntsAre vs ns->ns.length<=n->s₁.gens=#[] ->
   codeAny (model l.prog w) callerA (.call (.ref fa) ⟨[.ref a],[]⟩) (λr s'=>r=.ok (.ret (.bool true))/\OldK s₁.heap s'.heap/\s'.os=s₁.os/\AllBare s'.gens) s₁) :
  WalkO q loose XP YP l.row.toRowW d [] (λf vs=>PySem.call f vs):=by
 intro w s₀ s₁ mg mb G Y fa o pm cd doc dV kV ho hd hcd hD hmg hg args vals as hpre hlay hrd hwl hlo
 obtain rfl:dV=.none:=Dflts.none hD hdf
 obtain rfl:kV=.none:=Dflts.noKw hD
 obtain⟨a,vs,ns,rfl,rfl,hobj,hints,hlen⟩:=Zka hn hpre hwl
 refine enter_call (codeAny_mono (call w s₀ s₁ mg mb fa o pm cd doc a vs ns G Y ho (fd_plain hd) hcd hmg hobj hints hlen hg) λr s' hq=>?_)
 obtain⟨rfl,h2,h3,h4⟩:=hq
 exact⟨.inl ⟨.bool true,.bool true,[],rfl,λ_=>rfl,.bool true,Zkb l _,λ_=>⟨List.Pairwise.nil,λ_ hm=>(nomatch hm)⟩⟩,h2,h3,h4⟩
end Att
namespace L2
open PySem PySem.Spec PyProof.Rows
theorem ZgC:∀{vs:List Value}{ns:List Int},IntsAre vs ns->Vals (ns.map V.int) vs
 |_,_,.nil=>.nil
 |_,_,.cons n t h=>.cons ⟨t,rfl⟩ (ZgC h)
noncomputable def Only (H:Hp):Prop:=∀b,H b=none\/∃o xs,H b=some (.frz o (.lst xs))
theorem Zlp {P:Program}{w:World}{K:PySem.W.Frag}{mg mb:Str->Option Value}{CX:CXT}{k:Nat}{fa a:Addr}{fd:FuncData}{x:Str}{sp:Sp}{s₁:Shared}{vs:List Value}{ns:List Int}
  (KX:K.In s₁.heap) (hns:s₁.heap.Ns mainGlobals mg) (hb:s₁.heap.Ns builtinsNs mb) (hbb:∀x:Str,x≠"__name__"->mb x=bootBuiltins x) (hlim:s₁.heap.NoLimit) (hg:s₁.gens=#[])
  (ha:s₁.heap.get? a=some {cls:=.type "list",data:=.seq vs.toArray}) (hi:IntsAre vs ns) (hl:ns.length<=sizeLine) (hr:Room k callerA)
  (F:∀base:Heap,K.In base->base.Ns mainGlobals mg->FnOk P w K mg base CX k fa fd [x] sp) (hbind:∀(s:Shared) (u:Value),BindsTo s fd ⟨[u],[]⟩ [(x,u)])
  (hsp:∀H:Hp,Only H->SqL K H a (ns.map V.int)->sp [.ref a] H (λv _=>v=.bl true) λ_ _ _=>False)
  (hCX:∀H e s',CX [] H s₁ (λ_ _ _=>False) e s'->False) :
  codeAny (model P w) callerA (.call (.ref fa) ⟨[.ref a],[]⟩) (λr s'=>r=.ok (.ret (.bool true))/\OldK s₁.heap s'.heap/\s'.os=s₁.os/\AllBare s'.gens) s₁:=by
 have rv:=ZgC hi
 have lenV:=hi.length
 -- from an abstract heap in which nothing but the script may be tracked
 have core:∀H:Hp,Only H->SqL K H a (ns.map V.int)->HOk P w H s₁.heap->(∀b,H b≠none->b=a)->(H a≠none->K.lookup a=none) ->
   codeAny (model P w) callerA (.call (.ref fa) ⟨[.ref a],[]⟩) (λr s'=>r=.ok (.ret (.bool true))/\OldK s₁.heap s'.heap/\s'.os=s₁.os/\AllBare s'.gens) s₁:=by
  intro H hO hS hok hA hK
  have base_of:∀{b:Addr}{o:Obj},s₁.heap.get? b=some o->H b=none->(Zg7 s₁.heap H).get? b=some o:=λe n=>Zld e n
  have noA:∀{b:Addr}{o:Obj}{es:Array DictEntry}{ep:Nat},s₁.heap.get? b=some o->o.data=.dict es ep->H b=none:=λ{b o es ep} e d=>by
   cases q:H b with
   |none=>rfl
   |some u =>
    have e':b=a:=hA b (by rw[q];simp)
    subst e'
    rw[ha]at e;cases e
    have d':Data.seq vs.toArray _=Data.dict es ep:=d
    cases d'
  have nsK:∀{b:Addr}{m:Str->Option Value},s₁.heap.Ns b m->(Zg7 s₁.heap H).Ns b m:=λ{b m} ⟨o,es,ep,e,d,r⟩=>⟨o,es,ep,base_of e (noA e d),d,r⟩
  have hKb:K.In (Zg7 s₁.heap H):=λb o e=>base_of (KX b o e) (by
   cases q:H b with
   |none=>rfl
   |some u =>
    have e':b=a:=hA b (by rw[q];simp)
    subst e'
    rw[hK (by rw[q];simp)]at e;cases e)
  have hM:Mod K mg (Zg7 s₁.heap H):=⟨hKb,nsK hns,⟨mb,nsK hb,hbb⟩,let ⟨mc,h1,h2⟩:=hlim;⟨mc,nsK h1,h2⟩⟩
  have e0:Env0 P w K mg (Zg7 s₁.heap H) callerA [] s₁ H:=⟨rfl,hM,λb o e=>ZmJ e,Nat.le_of_eq (Zj1 _ _),trivial,λb hb=>absurd (show b∈([]:List Addr)from hb) (by simp),hok,.of_eq hg⟩
  refine codeAny_mono ((F _ hKb (nsK hns)).run callerA [] s₁ H ⟨[.ref a],[]⟩ [.ref a] [.ref a] _ _ hr e0 (hbind s₁ (.ref a)) (.cons rfl .nil) (hsp H hO hS)) λr s' h=>?_
  cases r with
  |error e=>exact(hCX H e s' h).elim
  |ok fl =>
   cases fl with
   |next=>exact False.elim h
   |brk=>exact False.elim h
   |cont=>exact False.elim h
   |ret u =>
    obtain⟨v,H',os,bare,un,hok',r',q⟩:=h
    have q':v=.bl true:=q
    subst q'
    obtain rfl:u=Value.bool true:=r'
    refine⟨rfl,OldK.of_keep λb o e=>?_,os,bare⟩
    cases q:H b with
    |none=>exact un.keep b o e q (by intro z;exact absurd (show b∈([]:List Addr)from z) (by simp)) (by simp)
    |some u =>
     rcases hO b with z|⟨ob,xs,z⟩
     ·rw[q]at z;cases z
     ·have z2:=un.frzs b ob _ z
      obtain⟨e1,_⟩:=hok b _ z
      obtain⟨e2,_⟩:=hok' b _ z2
      rw[e]at e1;cases e1
      exact e2
 cases hk:K.lookup a with
 |some o =>
  -- the script is one of the module's own objects
  have e:=KX a o hk
  rw[ha]at e
  cases e
  refine core (λ_=>none) (λ_=>.inl rfl) (.inr ⟨_,vs.toArray,_,hk,rfl,rfl,rfl,by rw[Yv,lenV];exact hl,by simpa using rv⟩) (λb u z=>by have z':(none:Option HO)=some u:=z;cases z') (λb z=>absurd rfl z) λz=>absurd rfl z
 |none =>
  refine core (λb=>if b=a then some (.frz {cls:=.type "list",data:=.seq vs.toArray} (.lst (ns.map V.int)))else none) (λb=>?_) (.inl (.inr ⟨{cls:=.type "list",data:=.seq vs.toArray},Yc rfl⟩)) (λb u z=>?_) (λb z=>?_) λ_=>hk
  ·by_cases hb:b=a
   ·exact .inr ⟨_,_,Yc hb⟩
   ·exact .inl (Yb hb)
  ·by_cases hb:b=a
   ·have z':=(Yc hb).symm.trans z
    cases z'
    subst hb
    exact⟨ha,by rw[Yh];exact hl,vs,_,rv,ha⟩
   ·have z':=(Yb hb).symm.trans z
    cases z'
  ·by_cases hb:b=a
   ·exact hb
   ·exact absurd (Yb hb) z
theorem ZmP {l:PySem.W.OpenLaw}{n k:Nat}{q:Program}{loose:List Str}{XP:(Str->Option Value)->Heap->Prop}{YP:World->Heap->Prop}{d:DefRec}{K:Params->PySem.W.Frag}{CX:World->CXT}{sp:World->Sp}{x:Str}
  (hn:l.most=some n) (hn2:n<=sizeLine) (hdf:d.params.defaults=[]) (hr:Room k callerA)
  (hY:∀(w:World) (h:Heap),YP w h->(K w.params).In h)
  (F:∀(w:World) (mg:Str->Option Value) (fa:Addr) (h:Heap),(K w.params).In h->h.Ns mainGlobals mg->mg d.name=some (.ref fa) ->
   ∃fd:FuncData,(∀(s:Shared) (u:Value),BindsTo s fd ⟨[u],[]⟩ [(x,u)]) /\
    ∀base:Heap,(K w.params).In base->base.Ns mainGlobals mg->FnOk l.prog w (K w.params) mg base (CX w) k fa fd [x] (sp w))
  (hsp:∀(w:World) (H:Hp) (a:Addr) (ns:List Int),ns.length<=n->Only H->SqL (K w.params) H a (ns.map V.int)->sp w [.ref a] H (λv _=>v=.bl true) λ_ _ _=>False)
  (hCX:∀(w:World) (H:Hp) (s:Shared) (e:Value) (s':Shared),CX w [] H s (λ_ _ _=>False) e s'->False) :
  PySem.W.WalkO q loose XP YP l.row.toRowW d [] (λf vs=>PySem.call f vs):=by
 refine Att.ZhQ hn hdf λw s₀ s₁ mg mb fa o pm cd doc a vs ns G Y ho hd hcd hmg hobj hints hlen hg=>?_
 have KX:=hY w _ Y
 obtain⟨fd,hb,hF⟩:=F w mg fa _ KX G.T.g hmg
 exact Zlp KX G.T.g G.T.b G.T.builtins G.T.nolimit hg hobj hints (Yn hlen hn2) hr hF hb (λH hO hS=>hsp w H a ns hlen hO hS) λH e s'=>hCX w H s₁ e s'
noncomputable def defArgs (s:Stmt):Arguments:=match s with
 |.FunctionDef _ a _ _ _ _ _ _ _ _=>a
 |_=>{posonlyargs:=[],args:=[],vararg:=none,kwonlyargs:=[],kw_defaults:=[],kwarg:=none,defaults:=[]}
noncomputable def defBody (s:Stmt):List Stmt:=match s with
 |.FunctionDef _ _ b _ _ _ _ _ _ _=>b
 |_=>[]
noncomputable def defScope (s:Stmt):Scope:=match s with
 |.FunctionDef _ _ _ _ _ _ sc _ _ _=>sc
 |_=>{kind:=.function,names:=[],isGenerator:=false,isCoroutine:=false}
noncomputable abbrev E0:XK:=λ_ _ _=>False
structure Fun (K:PySem.W.Frag) (x qual:Str) (st:Stmt) (f:Addr) (fd:FuncData):Prop where
 ex:∃(oc:Value) (od:Option Addr) (kV doc pm:Value) (an:Option Addr) (cdv ct:Value) (osl:Array (Option Value)),
  fd=PySem.W.fnOf x qual (defArgs st) (defBody st) (defScope st) .none kV doc pm an cdv ct/\K.lookup f=some ⟨oc,od,.func fd,osl⟩/\PySem.W.codeIn K cdv qual=true
 kp:PySem.W.keepIn K (.ref f)=true
section
variable {P:Program}{w:World}{K:PySem.W.Frag}{mg:Str->Option Value}{base:Heap}
theorem Fun.binds {x qual:Str}{st:Stmt}{f:Addr}{fd:FuncData}{ps:List Str} (F:Fun K x qual st f fd)
  (h:∀(kV doc pm:Value) (an:Option Addr) (cdv ct:Value) (us:List Value),us.length=ps.length->bindArgs (PySem.W.fnOf x qual (defArgs st) (defBody st) (defScope st) .none kV doc pm an cdv ct) ⟨us,[]⟩=pure (ps.zip us)):Binds K fd ps []:=by
 obtain⟨oc,od,kV,doc,pm,an,cdv,ct,osl,rfl,lk,hcd⟩:=F.ex
 exact .all (h kV doc pm an cdv ct)
theorem ZH {x qual:Str}{st:Stmt}{f:Addr}{oc:Value}{od an:Option Addr}{osl:Array (Option Value)}{kV doc pm cdv ct:Value} (l:K.lookup f=some ⟨oc,od,.func (PySem.W.fnOf x qual (defArgs st) (defBody st) (defScope st) .none kV doc pm an cdv ct),osl⟩)
  (c:PySem.W.codeIn K cdv qual=true) (k:PySem.W.keepIn K (.ref f)=true):Fun K x qual st f (PySem.W.fnOf x qual (defArgs st) (defBody st) (defScope st) .none kV doc pm an cdv ct):=⟨⟨oc,od,kV,doc,pm,an,cdv,ct,osl,rfl,l,c⟩,k⟩
end
section
variable {X:Cx}
theorem pv (i:Nat) {x:Str}{pos:Pos} (hN:X.N[i]?=some x:=by rfl) (hv:Vis X.env.scope x:=by first|exact Or.inl rfl|exact Or.inr (Or.inl rfl)|exact Or.inr (Or.inr rfl)) (hd:(x==("__debug__":Str))=false:=by decide)
  (hcd:(x==("__classdict__":Str))=false:=by decide):PE X (.Name x pos) (tVar i):=pe_var hN hv hd hcd
end
theorem Zbi {c A B:Prop} [Decidable c] (h1:c->A) (h2:¬ c->B):if c then A else B:=by
 by_cases h:c
 ·rw[Yc h]
  exact h1 h
 ·rw[Yb h]
  exact h2 h
noncomputable def Zf (H H':Hp):Prop:=∀b o,H b=some o->H' b=some o
theorem Zf.refl (H:Hp):Zf H H:=λ_ _ h=>h
theorem Zf.trans {H H1 H2:Hp} (a:Zf H H1) (b:Zf H1 H2):Zf H H2:=λc o h=>b c o (a c o h)
theorem Zf.free {H H':Hp} (e:Zf H H') {l:Addr} (h:H' l=Option.none):H l=Option.none:=by
 cases q:H l with
 |none=>rfl
 |some o =>
  rw[e l o q]at h
  cases h
theorem Zf.seq {K:PySem.W.Frag}{H H':Hp}{a:Addr}{xs:List V} (e:Zf H H') (h:SqL K H a xs):SqL K H' a xs:=by
 rcases h with(h|⟨o,h⟩)|h
 ·exact .inl (.inl (e _ _ h))
 ·exact .inl (.inr ⟨o,e _ _ h⟩)
 ·exact .inr h
theorem Zdt {env:Env}:∀(names:List (Str×NameKind)) (cs0:List (Str×Addr)),(∀y∈names,y.2=.free->∃c,env.cells.lookup y.1=some c) ->
  ∃cl,(forIn names cs0 (λ(x:Str×NameKind) r=>(do
   match x with
   |(name,kind)=>if (kind==NameKind.free)=true then do let a <-cellOf env name;pure (ForInStep.yield ((name,a)::r))else pure (ForInStep.yield r)):_->_->Sem (ForInStep (List (Str×Addr)))))=pure cl /\
   (∀p∈cl,p∈cs0\/env.cells.lookup p.1=some p.2)/\(∀p∈cs0,p∈cl)/\(∀y∈names,y.2=.free->∃c,(y.1,c)∈cl)
 |[],cs0,_=>⟨cs0,rfl,λp h=>.inl h,λp h=>h,λy h=>by cases h⟩
 |(n,k)::r,cs0,h=>by
  by_cases hk:k=.free
  ·subst hk
   obtain⟨c,hc⟩:=h (n,.free) (.head _) rfl
   obtain⟨cl,e,h1,h2,h3⟩:=Zdt r ((n,c)::cs0) λy hy=>h y (.tail _ hy)
   refine⟨cl,?_,λp hp=>?_,λp hp=>h2 p (.tail _ hp),λy hy hf=>?_⟩
   ·rw[List.forIn_cons]
    have e1:cellOf env n=pure c:=by unfold cellOf;rw[hc]
    simp only[beq_self_eq_true,if_true,e1,pure_bind]
    exact e
   ·rcases h1 p hp with q|q
    ·rcases Yj.mp q with q|q
     ·subst q;exact .inr hc
     ·exact .inl q
    ·exact .inr q
   ·rcases Yj.mp hy with q|q
    ·subst q;exact⟨c,h2 _ (.head _)⟩
    ·exact h3 y q hf
  ·obtain⟨cl,e,h1,h2,h3⟩:=Zdt r cs0 λy hy=>h y (.tail _ hy)
   refine⟨cl,?_,h1,h2,λy hy hf=>?_⟩
   ·rw[List.forIn_cons]
    have e1:(k==NameKind.free)=false:=by cases k<;>first|rfl|exact absurd rfl hk
    simp only[e1,Bool.false_eq_true,if_false,pure_bind]
    exact e
   ·rcases Yj.mp hy with q|q
    ·subst q;exact absurd hf hk
    ·exact h3 y q hf
theorem Zah {env:Env}:∀{names:List (Str×NameKind)}{x:Str}{k:NameKind},(names.map λ(n,k)=>if (k==NameKind.free&&env.scope.kind==.function&&env.kindOf n==some .cell)then (n,NameKind.cell)else (n,k)).lookup x=some k ->
  ∃k',names.lookup x=some k'/\(k=k'\/(k'=.free/\k=.cell))
 |[],_,_,h=>by simp at h
 |(n,k0)::r,x,k,h=>by
  by_cases hx:x=n
  ·subst hx
   refine⟨k0,by simp,?_⟩
   simp only[YC]at h
   split at h
   ·rename_i hc
    simp only[Bool.and_eq_true,beq_iff_eq]at hc
    simp only[List.lookup_cons_self,Option.some.injEq]at h
    exact .inr ⟨hc.1.1,h.symm⟩
   ·simp only[List.lookup_cons_self,Option.some.injEq]at h
    exact .inl h.symm
  ·have hb:(x==n)=false:=by simpa using hx
   simp only[YC]at h
   have e2:∀k1,((n,k1)::r).lookup x=r.lookup x:=λk1=>by simp[List.lookup_cons,hb]
   split at h<;>(simp only[List.lookup_cons,hb]at h;obtain⟨k',h1,h2⟩:=Zah h;exact⟨k',by rw[e2];exact h1,h2⟩)
noncomputable def Zlq (X:Cx) (Nc:List Str) (scope:Scope) (cl:List (Str×Addr)) (C:Addr) (s2:Shared) (H2:Hp) (fp:List Addr):Cx where
 prog:=X.prog
 w:=X.w
 K:=X.K
 mg:=X.mg
 base:=X.base
 A:=X.A
 N:=Nc
 s₀:=s2
 H₀:=H2
 env:=compEnvC scope cl C X.env
 outer:=X.stack
 stack:=X.stack
 ex:=fp
 fn:=λ_=>false
 calm:=X.calm
 pn:=[]
 xe:=λ_ _=>False
noncomputable def iniC (js:List (Option Nat)) (σ:St):St:=js.map λj=>match j with
 |none=>none
 |some i=>(σ[i]?).join
noncomputable def Zau (N Nc:List Str) (scope:Scope):List (Option Nat)->Nat->Bool
 |[],i=>i==Nc.length
 |none::r,i=>Zau N Nc scope r (i+1)
 |some j::r,i=>(match Nc[i]?,N[j]? with
  |some x,some y=>x==y&&scope.names.lookup x==some .free
  |_,_=>false)&&Zau N Nc scope r (i+1)
theorem Zdu {N Nc:List Str}{scope:Scope}:∀{js:List (Option Nat)}{i:Nat},Zau N Nc scope js i=true->i+js.length=Nc.length
 |[],i,h=>by simpa[Zau]using h
 |none::r,i,h=>by
  have:=Zdu (js:=r) (i:=i+1) (by simpa[Zau]using h)
  simp only[Yz];omega
 |some j::r,i,h=>by
  simp only[Zau,Bool.and_eq_true]at h
  have:=Zdu (js:=r) (i:=i+1) h.2
  simp only[Yz];omega
theorem Zen {N Nc:List Str}{scope:Scope}:∀{js:List (Option Nat)}{i k j:Nat},Zau N Nc scope js i=true->js[k]?=some (some j)->∃x,Nc[i+k]?=some x/\N[j]?=some x/\scope.names.lookup x=some .free
 |[],i,k,j,h,e=>by simp at e
 |none::r,i,0,j,h,e=>by simp at e
 |none::r,i,k+1,j,h,e=>by
  obtain⟨x,h1,h2,h3⟩:=Zen (js:=r) (i:=i+1) (k:=k) (j:=j) (by simpa[Zau]using h) (by simpa using e)
  exact⟨x,by rw[<-h1];congr 1;omega,h2,h3⟩
 |some j0::r,i,0,j,h,e=>by
  simp only[Zau,Bool.and_eq_true]at h
  simp only[List.getElem?_cons_zero,Option.some.injEq]at e
  subst e
  cases e1:Nc[i]? with
  |none=>rw[e1]at h;simp at h
  |some x =>
   cases e2:N[j0]? with
   |none=>rw[e1,e2]at h;simp at h
   |some y =>
    rw[e1,e2]at h
    simp only[Bool.and_eq_true,beq_iff_eq]at h
    exact⟨x,by simpa using e1,by rw[h.1.1],h.1.2⟩
 |some j0::r,i,k+1,j,h,e=>by
  simp only[Zau,Bool.and_eq_true]at h
  obtain⟨x,h1,h2,h3⟩:=Zen (js:=r) (i:=i+1) (k:=k) (j:=j) h.2 (by simpa using e)
  exact⟨x,by rw[<-h1];congr 1;omega,h2,h3⟩
section
variable {X:Cx}
theorem lookup_mem {names:List (Str×NameKind)}{x:Str}{k:NameKind} (h:names.lookup x=some k):(x,k)∈names:=PySem.mem_of_lookup h
theorem ZcD {prog:Program}{w:World}{A:Around}{R:Result->Shared->Prop}{s:Shared}{elt target iter:Expr}{ifs:List Expr}{scope:Scope}{pos:Pos}{it acc:Value}{env:Env} (I:Nat->Shared->Prop)
  (turn:∀n s,I n s->wpAny (model prog w) A (pyNext it) (λr s₁=>match r with
   |none=>R (.ok .next) s₁
   |some v=>wpAny (model prog w) A (letOwnedTupleGo target it v) (λ_ s₁=>wpAny (model prog w) A (assign target env v) (λ_ s₂ =>
     wpAny (model prog w) A (forIn ifs true λc r=>if r=true then do let ok <-isTrue c env (eval c env);pure (ForInStep.yield ok)else pure (ForInStep.yield r)) (λok s₃ =>
      if ok=true then wpAny (model prog w) A (eval elt env) (λx s₄ =>
       wpAny (model prog w) A (call (.builtin "list.append") [acc,x]) (λ_ s₅=>∃m,m<n/\I m s₅) (λ_ _=>False) s₄) (λ_ _=>False) s₃
      else ∃m,m<n/\I m s₃) (λ_ _=>False) s₂) (λ_ _=>False) s₁) (λ_ _=>False) s₁) (λ_ _=>False) s)
  (n:Nat) (h:I n s) :
  codeAny (model prog w) A (.compLoop (.ListComp elt [⟨target,iter,ifs,0⟩] scope pos) 0 it acc env) R s:=by
 refine codeAny_loop rfl I (λn s hI=>?_) n h
 show wpAny _ A ((compTurn (.ListComp elt [⟨target,iter,ifs,0⟩] scope pos) 0 it acc env).onRaise (λx=>do noteFrame x env;theTreesLotGoes x)) _ _ s
 refine wpAny_noted ?_
 rw[compTurn_list]
 refine Ya (wpAny_standAt (Ya (YT (turn n s hI) (λr s₁ h₁=>?_) λ_ _ h'=>h'.elim)))
 cases r with
 |none=>exact Ye h₁
 |some v =>
  refine Ya (YT h₁ (λ_ s₁' h₁=>?_) λ_ _ h'=>h'.elim)
  refine Ya (YT h₁ (λ_ s₂ h₂=>Ya (YT h₂ (λok s₃ h₃=>?_) λ_ _ h'=>h'.elim)) λ_ _ h'=>h'.elim)
  cases ok with
  |false=>exact Ye ⟨rfl,h₃⟩
  |true =>
   exact Ya (Ya (YT h₃ (λx s₄ h₄=>Ya (YT h₄ (λ_ s₅ h₅=>Ye (Ye ⟨rfl,h₅⟩)) λ_ _ h'=>h'.elim)) λ_ _ h'=>h'.elim))
noncomputable def Zkc (X:Cx) (ifs:List Expr) (t:TT):Prop :=
 ∀(pins:List (Addr×Obj)) (s:Shared) (σ:St) (H:Hp) (Q:Bool->Hp->Prop),Inv X pins σ H s->t σ H Q ->
  wpAny (model X.prog X.w) X.A (forIn ifs true λc r=>if r=true then do let ok <-isTrue c X.env (eval c X.env);pure (ForInStep.yield ok)else pure (ForInStep.yield r)) (TP X pins σ Q) X.xe s
noncomputable def tYes:TT:=λ_ H Q=>Q true H
theorem Zac:Zkc X [] tYes:=λpins s σ H Q I h=>wpAny_tests_nil ⟨H,I,h⟩
theorem ZdQ {c:Expr}{t:TT} (h:PT X c t):Zkc X [c] t:=λpins s σ H Q I hq=>wpAny_tests_one (h pins s σ H Q I hq)
noncomputable def Zlr (L:List Nat) (σ σ':St):Prop:=σ'.length=σ.length/\∀k,k∉L->σ'[k]?=σ[k]?
noncomputable def ZjA (g:TG) (L:List Nat):Prop:=∀v σ H (Q Q':St->Hp->Prop),(∀σ' H',Zlr L σ σ'->Q σ' H'->Q' σ' H')->g v σ H Q->g v σ H Q'
theorem ZC {i:Nat}:ZjA (gName i) [i]:=λv σ H Q Q' hq h=>hq _ _ ⟨by simp,λk hk=>by
 rw[List.getElem?_set_ne]
 intro z;subst z;exact hk (by simp)⟩ h
noncomputable def ZjB (wi:TI) (g:TG) (tt:TT) (te:TE) (js:List (Option Nat)):TE:=fun σ H Q=>wi σ H λJ H1=>∃W:Nat->Nat->List V->Hp->Prop,(∃m,W 0 m [] H1)/\∀i m acc H,W i m acc H ->
 (J.stop i H/\acc.length<=sizeLine/\∀p,H p=none->Q (.ref p) (upd H p (.lst acc))) \/
 (J.go i H/\acc.length<sizeLine/\∀x H',J.yld i H x H'->g x (iniC js σ) H' fun σ2 H2=>tt σ2 H2 λb H3=>if b=true then te σ2 H3 λv H4=>∃m',m'<m/\W (i+1) m' (acc++[v]) H4 else ∃m',m'<m/\W (i+1) m' acc H3)
theorem Zhi {C:Addr}{h:Heap}:Heap.SameBut C h h:=by
 first|exact Heap.SameBut.refl|exact⟨rfl,λ_ _=>rfl⟩
end
end L2
namespace L2
open PySem PySem.Spec PyProof.Rows PySem.W PySem.Builtin.ObjectAttr PySem.Builtin.Getset_descriptor
noncomputable def ZhR (x C:Addr) (h:Heap):Prop:=∃o,h.get? x=some o/\o.cls=.ref C
structure ExK (K:Frag) (C:Addr):Prop where
 dk:hasDictIn K C=true
 ga:findIn K (.ref C) "__getattribute__"=some (some (.builtin "BaseException.__getattribute__"))
 gt:findIn K (.ref C) "__getattr__"=some none
 cl:findIn K (.ref C) "__class__"=some (some (.builtin "object.__class__"))
 gg:specialIn K (.builtin "object.__class__") "__get__"=some (some (.builtin "getset_descriptor.__get__"))
 tk:takesIn K (.builtin "object.__class__")=some true
 mo:mroIn K C (.type "object")=some true
 mb:mroIn K C (.type "BaseException")=some true
section
variable {K:Frag}{x C:Addr}
theorem ZhR.type {M:Model}{h:Heap} (I:ZhR x C h):Looks M h (typeOf (.ref x)) (.ref C):=by
 obtain⟨o,e,c⟩:=I
 exact c▸(Looks.ld e).andThen .now
theorem Zls {M:Model}{h:Heap} (X:K.In h) (Z:ExK K C):Looks M h (find (.ref x) (.ref C) "__class__") (.bind (.builtin "getset_descriptor.__get__") (.builtin "object.__class__")):=by
 have L3:=looks_takesIn (M:=M) X Z.tk
 exact(looks_findIn (M:=M) X Z.cl).andThen ((looks_specialIn X Z.gg).andThen
  ((show Looks M h (dataDescriptor? (some (.builtin "object.__class__")) (some (.builtin "getset_descriptor.__get__"))) (some (.builtin "getset_descriptor.__get__",.builtin "object.__class__"))from L3.andThen .now).andThen (Looks.tag .now)))
theorem ZmQ {prog:Program}{w:World}{A:Around}{R:Result->Shared->Prop}{s:Shared}{tp:Value} (X:K.In s.heap) (I:ZhR x C s.heap) (Z:ExK K C) (hR:R (.ok (.ret (.ref C))) s) :
  codeAny (model prog w) A (.call (.builtin "getset_descriptor.__get__") ⟨[.builtin "object.__class__",.ref x,tp],[]⟩) R s:=by
 obtain⟨hp,gn,dw,tk,os⟩:=s
 have L0:=I.type (M:=model prog w)
 have L1:=looks_mroIn (M:=model prog w) X Z.mo
 refine codeAny_call_builtin KF.slot_gs.plain KF.entry_gs (KF.slot_gs.check _ _ _ _ _ _ _ _ KF.type_class (KF.args_gs _ _ _) ?_)
 unfold Builtin.«getset_descriptor.__get__» descrGet;rw[dga_obj];refine Ya (Ye ?_)
 unfold descrGetter descrCheckInstance descrNameAndClass isInstance;simp only[KF.owner_class]
 repeat lk
 refine⟨Code.quiet_builtin _ (by decide +kernel),codeAny_builtin KF.entry_class ?_⟩;unfold Builtin.«object.__class__» shownTypeOf
 repeat lk
 exact hR
theorem Zkd {prog:Program}{w:World}{A:Around}{E:Value->Shared->Prop}{s:Shared}{tk:Tok}{Q:Fin->Shared->Prop} (X:K.In s.heap) (I:ZhR x C s.heap) (Z:ExK K C) (hQ:Q (.done (.ret (.ref C))) s) :
  wpAny (model prog w) A (Builtin.«object.__getattribute__» ⟨[.ref x,.str "__class__" tk],[]⟩) Q E s:=by
 obtain⟨hp,gn,dw,t,os⟩:=s
 have L0:=I.type (M:=model prog w)
 have L2:=Zls (M:=model prog w) (x:=x) X Z
 unfold Builtin.«object.__getattribute__»
 refine Ya (Ye (Ya (Ye (Ya (L0.at (Ya (L2.at ?_)))))))
 show wpAny _ _ (holding _ (call _ _) >>= ret) _ _ _
 exact Ya (YH (wpAny_call (ZmQ (s:=⟨hp,gn,dw,t,os⟩) X I Z (Ye hQ))))
theorem Zke {M:Model}{A:Around}{E:Value->Shared->Prop}{s:Shared}{nameV:Value}{Q:Unit->Shared->Prop} (X:K.In s.heap) (I:ZhR x C s.heap) (Z:ExK K C) (hq:Q () s) :
  wpAny M A (checkBuiltinCall "BaseException.__getattribute__" ⟨[.ref x,nameV],[]⟩) Q E s:=by
 obtain⟨hp,gn,dw,t,os⟩:=s
 have hk:builtinKind "BaseException.__getattribute__"=some .slot:=by decide +kernel
 have hsplit:splitId "BaseException.__getattribute__"=some ("BaseException","__getattribute__"):=by decide +kernel
 have L0:=I.type (M:=M)
 have L1:=looks_mroIn (M:=M) X Z.mb
 have ha:=F.args_bexc_ga (.ref x) nameV
 simp only[checkBuiltinCall,hk,hsplit]
 refine Ya ?_
 unfold isInstance
 refine Ya (L0.at (L1.at ?_))
 repeat (first|assumption|wp_step)
theorem Zkf {prog:Program}{w:World}{A:Around}{E:Value->Shared->Prop}{s:Shared}{Q:Option Value->Shared->Prop} (X:K.In s.heap) (I:ZhR x C s.heap) (Z:ExK K C) (hQ:Q (some (.ref C)) {s with toks:=s.toks+1}) :
  wpAny (model prog w) A (getAttr? (.ref x) "__class__") Q E s:=by
 obtain⟨hp,gn,dw,tk,os⟩:=s
 have L0:=I.type (M:=model prog w)
 have L1:=looks_findIn (M:=model prog w) X Z.ga
 have L3:=looks_findIn (M:=model prog w) X Z.gt
 have hb:=(F.attrBase_ValueError.ga).bind (.ref x)
 unfold getAttr? getAttrBy? getAttrBy;refine Ya (wpAny_mkText (Ya (wpAny_attempt (YH (Ya (L0.at (Ya (L1.at ?_))))))))
 show wpAny _ _ (getAttrByItsOwn _ _ _ _ _ _) _ _ _
 unfold getAttrByItsOwn hookBefore
 refine Ya (L3.at ?_)
 refine Ya (wpAny_attempt (YH ?_))
 unfold callGetattribute
 show wpAny _ _ (boundAndCalled _ _ _) _ _ _
 unfold boundAndCalled
 rw[hb]
 refine Ya (Ye ?_)
 refine wpAny_call ?_
 refine codeAny_call_builtin F.attrBase_ValueError.ga.plain F.entry_bexc_ga (Zke (s:=⟨hp,gn,dw,tk+1,os⟩) X I Z (Zkd (s:=⟨hp,gn,dw,tk+1,os⟩) X I Z ?_))
 exact handed_on rfl (Ye hQ)
theorem ZmR (Z:ExK K C):KitX K (.ref x) (.ref C) (ZhR x C) where
 ty:=λ_ _ _ I=>I.type
 it:=λ_ _ X _=>by
  obtain⟨cdD,hcD,_⟩:=any_some Z.dk
  unfold clsIn at hcD
  split at hcD
  ·rename_i c' d' cd' sl' ho
   intro A' Q' E' s' k q
   unfold isType loadHead;exact Ya (wpAny_loadPart (k _ _ (X _ _ ho)) (Ye q))
  ·cases hcD
 ne:=λh tp dd its n sl X htp=>by
  obtain⟨cdD,hcD,_⟩:=any_some Z.dk
  refine Bool.eq_false_iff.mpr λq=>?_
  have e:C=tp:=Value.ref.inj (beq_iff_eq.mp q);subst e
  unfold clsIn at hcD
  split at hcD
  ·rename_i c' d' cd' sl' ho
   have z:=(X _ _ ho).symm.trans htp;cases z
  ·cases hcD
 ca:=λX I k=>Zkf X I Z k
end
noncomputable def ExcO (e C:Addr):HO:=.ext (ZhR e C)
noncomputable def tyIs (K:Frag) (H:Hp) (x:V) (c:Value) (b:Bool):Prop :=
 (∃t,TyOf K H x t/\kitOne K t c=some b)\/∃e C,x=.ref e/\H e=some (ExcO e C)/\ExK K C/\kitOne K (.ref C) c=some b
noncomputable def cOf:V->Option Value
 |.ref a=>some (.ref a)
 |.ty n=>some (.type n)
 |_=>none
section
variable {X:Cx}
noncomputable def rIsi (K:Frag):List V->Hp->VK->Prop:=λxs H Q=>∃x v c b,xs=[x,v]/\cOf v=some c/\tyIs K H x c b/\Q (.bl b) H
theorem Zlt:Za7 X (.builtin "isinstance") (rIsi X.K):=by
 intro pins s σ H xs us Q I r h
 obtain⟨x,v,c,b,rfl,hc,ht,q⟩:=h
 obtain⟨u,u2,rfl,ru,ru2⟩:=r.two
 have e2:u2=c:=by
  cases v with
  |ref a=>have:=(show u2=Value.ref a from ru2);cases hc;exact this
  |ty n=>have:=(show u2=Value.type n from ru2);cases hc;exact this
  |_=>cases hc
 subst e2
 have fin:∀tk,EP X pins σ Q (.bool b) {s with toks:=tk}:=λtk=>⟨.bl b,H,I.tok tk,rfl,q⟩
 rcases ht with⟨t,ty,e⟩|⟨e,C,rfl,hH,Z,e1⟩
 ·exact Zj8 I ru ty e fin
 ·cases(show u=Value.ref e from ru)
  obtain⟨p,_,_⟩:=(show ZX X.prog X.w H s.heap e (ExcO e C)from I.hok e _ hH)
  exact kia_one (ZmR Z) I.kIn p e1 (λz=>nomatch z) fin
end
end L2
namespace L2
open PySem PySem.Spec PyProof.Rows
theorem ZX.has {P:Program}{w:World}{H:Hp}{h:Heap}{a:Addr}{o:HO} (x:ZX P w H h a o):∃u,h.get? a=some u:=by
 induction o with
 |lst xs=>obtain⟨_,_,_,_,e⟩:=x;exact⟨_,e⟩
 |tup xs=>obtain⟨_,_,_,o,e,_⟩:=x;exact⟨_,e⟩
 |dK kvs=>obtain⟨_,_,_,_,o,_,_,e,_⟩:=x;exact⟨_,e⟩
 |dT kvs=>obtain⟨_,_,_,_,o,_,_,e,_⟩:=x;exact⟨_,e⟩
 |set S n=>obtain⟨o,_,_,_,e,_⟩:=x;exact⟨_,e⟩
 |ins C dx fs=>obtain⟨_,_,_,e,_⟩:=x;exact⟨_,e⟩
 |own y=>exact x
 |xd fs=>obtain⟨_,⟨_,_,_,e,_⟩,_⟩:=x;exact⟨_,e⟩
 |rng lo hi=>obtain⟨_,_,_,e⟩:=x;exact⟨_,e⟩
 |frz ob u _=>obtain⟨e,_⟩:=x;exact⟨_,e⟩
 |tbl ps=>obtain⟨_,e,_⟩:=x;exact⟨_,e⟩
 |met f y=>exact⟨_,x⟩
 |ext φ=>obtain⟨_,e,_⟩:=x;exact e
structure Fly (P:Program) (w:World) (outer:List Env) (H:Hp) (s:Shared) (H':Hp) (B:Heap) (e:Addr) (C a0:Value) (s':Shared):Prop where
 os:s'.os=s.os
 bare:AllBare s'.gens
 fly:Heap.FlyingW B outer e C a0 s'.heap
 hok:HOk P w H' B
 keep:∀b o,s.heap.get? b=some o->H b=none->b∉frs outer->B.get? b=some o
 slot:∀b o,s.heap.get? b=some o->b∈frs outer->(∀vs,o.data≠.fields vs)->∃sl,s'.heap.get? b=some {o with slots:=sl}
 free:∀b o,s.heap.get? b=some o->H b=none->H' b=none
 there:∀b o,s.heap.get? b=some o->b∉frs outer->∃o',B.get? b=some o'
 tups:∀b xs,H b=some (.tup xs)->H' b=some (.tup xs)
 frzs:∀b o u,H b=some (.frz o u)->H' b=some (.frz o u)
 tbls:∀b ps,H b=some (.tbl ps)->∃more,H' b=some (.tbl (ps++more))
noncomputable def CXE (P:Program) (w:World):CXT:=λouter H s E ev s'=>∃e C a0 H' B,ev=.ref e/\Fly P w outer H s H' B e C a0 s'/\E C none H'
theorem ZN {P:Program}{w:World}{X:Cx}:Passes (CXE P w) X E0:=λ_ _ _ _ _ _ _ ⟨_,_,_,_,_,_,_,z⟩=>z.elim
section
variable {P:Program}{w:World}{K:PySem.W.Frag}{mg:Str->Option Value}{base:Heap}{N:List Str}{qual:Str}{scope:Scope}{f:Addr}{cd:Value}{A:Around}{outer:List Env}{s:Shared}{H:Hp}{E:XK}
theorem Zhj {pins:List (Addr×Obj)}{σ:St}{H1:Hp}{s1:Shared}{h':Heap}{e:Addr}{C:Value}{vs:List Value} (I:Inv (Ze6 (CXE P w) P w K mg base N qual scope f cd A outer s H E) pins σ H1 s1)
  (hx:Heap.MadeExcOf s1.heap h' e C vs) (hE:E C none H1):(Ze6 (CXE P w) P w K mg base N qual scope f cd A outer s H E).xe (.ref e) {s1 with heap:=h'}:=by
 let env:=envOfC qual scope s.heap.objs.size f cd
 let B:=PySem.W.hideAll s1.heap (frs (env::outer))
 have hin:∀en∈(env::outer),∀b,en.frame=some b->b∈frs (env::outer):=λen he b hb=>List.mem_filterMap.mpr ⟨en,he,hb⟩
 have st:s1.heap.FunFrames base (env::outer):=I.stack
 have loc:∀b,b∈frs (env::outer)->b=s.heap.objs.size\/b∈frs outer:=λb hb=>Yj.mp (I.Zei b hb)
 have old:∀b o,s.heap.get? b=some o->b∉frs outer->b∉frs (env::outer):=λb o q nb hb=>by
  rcases loc b hb with z|z
  ·exact absurd (Yi q) (by rw[z];exact YG _)
  ·exact nb z
 have un:Un (frs outer) [] H H1 s.heap s1.heap:=I.base
 have hokB:HOk P w H1 B:=λa o q=>by
  have nf:∀b o,H1 b=some o->b∉frs (env::outer):=λb o z hb=>by
   have:=I.Zg8 b hb
   rw[this]at z;cases z
  refine(I.hok a o q).Zgg (λb u hb z=>?_) (λ_ z=>z) (λ_ _ z=>z) λ_ _ _ z=>z
  rcases hb with hb|hb
  ·rw[hb]at z⊢;exact PySem.W.hideAll_get _ z (nf a o q)
  ·exact PySem.W.hideAll_get _ z (nf b _ hb)
 refine wpAny_leaves_madeW (base:=B) (h:=s1.heap) (env:=env) (outer:=outer) (L:=s.heap.objs.size) I.ok.frames rfl (λb o q=>PySem.W.of_hideAll _ q) (PySem.W.funFrames_hide st hin) hx λh2 t x1 x2 x3 x4=>?_
 refine⟨e,C,.ref t,H1,B,rfl,⟨I.os,I.bare,x1,hokB,λb o q n nb=>?_,λb o q hb hd=>?_,λb o q n=>un.free b o q n (by simp),λb o q nb=>?_,un.tups,un.frzs,un.tbls⟩,hE⟩
 ·exact PySem.W.hideAll_get _ (un.keep b o q n nb (by simp)) (old b o q nb)
 ·obtain⟨sl,z⟩:=un.slot b o q (I.ok.frf b hb) hb (by simp)
  obtain⟨sl2,z2⟩:=x4 b _ (hx.keeps _ _ z) hd
  exact⟨sl2,z2⟩
 ·obtain⟨o',z⟩:=un.there b o q (by simp)
  exact⟨o',PySem.W.hideAll_get _ z (old b o q nb)⟩
theorem Zc8:Passes (CXE P w) (Ze6 (CXE P w) P w K mg base N qual scope f cd A outer s H E) E:=by
 intro pins σ H1 s1 ev s2 I h
 obtain⟨e,C,a0,H',B,rfl,F,hE⟩:=h
 let env:=envOfC qual scope s.heap.objs.size f cd
 have un:Un (frs outer) [] H H1 s.heap s1.heap:=I.base
 have loc:∀b,b∈frs (env::outer)->b=s.heap.objs.size\/b∈frs outer:=λb hb=>Yj.mp (I.Zei b hb)
 have old:∀b o,s.heap.get? b=some o->b∉frs outer->b∉frs (env::outer):=λb o q nb hb=>by
  rcases loc b hb with z|z
  ·exact absurd (Yi q) (by rw[z];exact YG _)
  ·exact nb z
 refine wpAny_leaves_onW (env:=env) (outer:=outer) (L:=s.heap.objs.size) I.ok.frames rfl F.fly λh2 x1 x2=>?_
 refine⟨e,C,a0,H',B,rfl,⟨F.os.trans I.os,F.bare,x1,F.hok,λb o q n nb=>F.keep b o (un.keep b o q n nb (by simp)) (un.free b o q n (by simp)) (old b o q nb),λb o q hb hd=>?_,λb o q n=>?_,λb o q nb=>?_,λb xs z=>F.tups b xs (un.tups b xs z),λb o u z=>F.frzs b o u (un.frzs b o u z),λb ps z=>?_⟩,hE⟩
 ·obtain⟨sl,z⟩:=un.slot b o q (I.ok.frf b hb) hb (by simp)
  obtain⟨en,he,hf⟩:=List.mem_filterMap.mp hb
  obtain⟨sl2,z2⟩:=F.slot b _ z (List.mem_filterMap.mpr ⟨en,.tail _ he,hf⟩) hd
  obtain⟨sl3,z3⟩:=x2 b _ z2 hd
  exact⟨sl3,z3⟩
 ·by_cases hb:b∈frs outer
  ·have h1:H1 b=none:=un.free b o q n (by simp)
   obtain⟨sl,z⟩:=un.slot b o q n hb (by simp)
   exact F.free b _ z h1
  ·exact F.free b o (un.keep b o q n hb (by simp)) (un.free b o q n (by simp))
 ·obtain⟨o',z⟩:=un.there b o q (by simp)
  exact F.there b o' z (old b o q nb)
 ·obtain⟨m1,z1⟩:=un.tbls b ps z
  obtain⟨m2,z2⟩:=F.tbls b _ z1
  exact⟨m1++m2,by rw[<-Array.append_assoc];exact z2⟩
end
abbrev bmV:List Value:=[.type "ValueError",.type "Exception",.type "BaseException",.type "object"]
abbrev newV:String:="ValueError.__new__"
theorem Zlu {K:PySem.W.Frag}{h:Heap}{mg:Str->Option Value}{x:Str}{C:Addr} (X:K.In h) (hm:mg x=some (.ref C)) (q:PySem.W.excIn K C bmV newV=true):OwnCls x C bmV newV mg h:=by
 refine⟨hm,?_⟩
 unfold PySem.W.excIn at q;split at q
 ·rename_i dd cd sl ho
  split at q
  ·rename_i C' bm k0 k1 k2 k3 n k5 hmm hs
   simp only[Bool.and_eq_true,beq_iff_eq,Bool.not_eq_true']at q;obtain⟨⟨⟨⟨⟨rfl,rfl⟩,hdel⟩,ht⟩,hok⟩,hni⟩:=q
   obtain⟨nm,bs,mro,ns,qn,hd,sn,sub,ab,col,del⟩:=cd;dsimp only at hmm hdel hok hni;subst hmm hdel
   have hsl:sl=#[k0,k1,k2,k3,some (.builtin newV),k5]:=by obtain⟨l⟩:=sl;simp only at hs;rw[hs]
   subst hsl;exact⟨bm,ns,nm,qn,bs,hd,sn,sub,ab,col,dd,k0,k1,k2,k3,k5,_,X _ _ ho,.of_isNs (PySem.W.isNs_of_in X hok),PySem.W.nsMap_none_of_in X hok hni,PySem.W.tail_of_in X ht⟩
  ·cases q
 ·cases q
section
variable {X:Cx}
noncomputable def tRaise (C:Addr) (E:XK) (t:TA):TS:=λ_ σ H=>t σ H λvs H1=>vs.length<=sizeLine/\E (.ref C) none H1
theorem ZbY {x:Str}{C:Addr}{np cpos pos:Pos}{e0:Expr}{es:List Expr}{t:TA}{E:XK} (hc:X.calm=true) (hg:Gl X x) (hm:X.mg x=some (.ref C)) (q:PySem.W.excIn X.K C bmV newV=true) (ha:PA X (e0::es) t)
  (hx:∀pins σ H s h' e vs,Inv X pins σ H s->Heap.MadeExcOf s.heap h' e (.ref C) vs->E (.ref C) none H->X.xe (.ref e) {s with heap:=h'})
  (he:starEach (e0::es) X.env=(false,eval e0 X.env)::starEach es X.env:=by rfl) (hpl:(backTo cpos (starEach es X.env)).any (·.1)=false:=by rfl) (hd:(x==("__debug__":Str))=false:=by decide) :
  PS X (.Raise (some (.Call (.Name x np) (e0::es) [] cpos)) none pos) (tRaise C E t):=by
 intro pins s σ H D I h
 obtain⟨tl,Nn,nm,qn,bs,hdct,sn,sub,ab,col,dd,k0,k1,k2,k3,k5,mN,hC,hN,hni,T⟩:=(Zlu (x:=x) I.mod.kin hm q).obj
 refine wpAny_Raise_call_subT (C:=C) (nm:=nm) (q:=qn) (N:=Nn) (bs:=bs) (bm:=tl) (hdct:=hdct) (sn:=sn) (sub:=sub) (ab:=ab) (col:=col) (dd:=dd) (k0:=k0) (k1:=k1) (k2:=k2) (k3:=k3) (k5:=k5)
  PySem.F.excBase_ValueError (mN:=mN) (T.hasType PySem.F.excBase_ValueError.hasBase) (I.ok.hd hc) (by rw[he];show(false||(backTo cpos (starEach es X.env)).any (·.1))=false;rw[hpl];rfl) hni (Zfc I hg hm ⟨rfl,?_⟩ hd)
 have h2:=ha cpos pins s σ H _ I h
 rw[he]at h2⊢
 exact Calls.evalArgs_plain (thn h2 λus s2 ⟨vs,H2,I2,r,z,q2⟩=>⟨rfl,by rw[<-r.length];exact z,I2.bk _ _ hC,hN.keeps I2.bk,T.keeps I2.bk,λh' e hm'=>hx pins σ H2 s2 h' e us I2 hm' q2⟩)
end
noncomputable def Cx.tries (X:Cx) (Ec:St->XK) (pl:List (Addr×Obj)):Cx:={X with pn:=X.pn++pl,xe:=λev s'=>∃σ H s,Inv X pl σ H s/\CXE X.prog X.w X.stack H s (Ec σ) ev s'}
noncomputable def Cx.Zdg (X:Cx) (A':Around):Cx:={X with A:=A',calm:=false,xe:=λ_ _=>False}
section
variable {X:Cx}
theorem Inv.tries {pins:List (Addr×Obj)}{σ:St}{H:Hp}{s:Shared} (I:Inv X pins σ H s) (Ec:St->XK):Inv (X.tries Ec pins) [] σ H s :=
 ⟨⟨I.ok.mod,I.ok.kind,I.ok.glob,I.ok.blt,I.ok.above,I.ok.inj,I.ok.has,I.ok.cab,I.ok.hd,I.ok.frames,I.ok.stk,I.ok.exf,I.ok.bs,I.ok.bsz,I.ok.noex,I.ok.exfs,I.ok.funs,I.ok.frf⟩,I.os,I.bare,I.base,I.loc,I.cell,I.free,I.freeC,
  λp hp=>I.pin p (by simpa[Cx.tries]using hp),I.hok,I.len⟩
theorem Inv.ZdR {pins pl:List (Addr×Obj)}{σ:St}{H:Hp}{s:Shared}{Ec:St->XK} (I:Inv (X.tries Ec pl) pins σ H s):Inv X pl σ H s :=
 ⟨⟨I.ok.mod,I.ok.kind,I.ok.glob,I.ok.blt,I.ok.above,I.ok.inj,I.ok.has,I.ok.cab,I.ok.hd,I.ok.frames,I.ok.stk,I.ok.exf,I.ok.bs,I.ok.bsz,I.ok.noex,I.ok.exfs,I.ok.funs,I.ok.frf⟩,I.os,I.bare,I.base,I.loc,I.cell,I.free,I.freeC,
  λp hp=>I.pin p (YN _ (by simpa[Cx.tries]using hp)),I.hok,I.len⟩
theorem Inv.Zdg {pins:List (Addr×Obj)}{σ:St}{H:Hp}{s:Shared}{A':Around} (I:Inv X pins σ H s) (hA:A'.frames=X.A.frames):Inv (X.Zdg A') pins σ H s :=
 ⟨⟨I.ok.mod,I.ok.kind,I.ok.glob,I.ok.blt,I.ok.above,I.ok.inj,I.ok.has,I.ok.cab,(λz=>nomatch z),hA.trans I.ok.frames,I.ok.stk,I.ok.exf,I.ok.bs,I.ok.bsz,I.ok.noex,I.ok.exfs,I.ok.funs,I.ok.frf⟩,I.os,I.bare,I.base,I.loc,I.cell,I.free,I.freeC,I.pin,I.hok,I.len⟩
theorem Inv.ZmS {pins:List (Addr×Obj)}{σ:St}{H:Hp}{s:Shared}{A':Around} (ok:X.Ok) (I:Inv (X.Zdg A') pins σ H s):Inv X pins σ H s :=
 ⟨ok,I.os,I.bare,I.base,I.loc,I.cell,I.free,I.freeC,I.pin,I.hok,I.len⟩
theorem passT {Ec:St->XK}{pl:List (Addr×Obj)}:∀pins σ H s ev s',Inv (X.tries Ec pl) pins σ H s->CXE X.prog X.w X.stack H s (Ec σ) ev s'->(X.tries Ec pl).xe ev s':=λpins σ H s ev s' I h=>⟨σ,H,s,I.ZdR,h⟩
theorem Zgj {M:Model}{A:Around}{E:Value->Shared->Prop}{C D:Addr}{nm' q':Str}{N':Addr}{bs' bm':List Value}{hdct':Bool}{sn':List Str}{sub':List Value}{ab':Bool}{col':Option Bool}{dd':Option Addr}{k0' k1' k2' k3' k5':Option Value}{newId':String}
  {h:Heap}{g:Array GenState}{d:Drawn}{t:Nat}{os:OsState}{e:Addr}{oe:Obj}{Q:Bool->Shared->Prop}
  (LC:PySem.W.Looks M h (isSubtype (.ref C) (.ref D)) true) (hD:h.get? D=some (excClassObj nm' q' D N' bs' bm' hdct' sn' sub' ab' col' dd' k0' k1' k2' k3' k5' newId'))
  (he:h.get? e=some oe) (hcls:oe.cls=.ref C) (hbase:bm'.contains (.type "BaseException")=true)
  (hq:Q true ⟨h,g,d,t,os⟩):wpAny M A (excMatches (.ref e) (.ref D)) Q E ⟨h,g,d,t,os⟩:=by
 have hcB:(Value.ref D::bm').contains (.type "BaseException")=true:=by rw[List.contains_cons,hbase,Bool.or_true]
 have f:=tc_notTuple
 unfold excMatches
 repeat (first|(with_reducible refine wpAny_loadPart_at he ?_;rw[hcls])|with_reducible refine wpAny_loadPart_at hD ?_|(with_reducible refine wpAny_isSubtype_exc hD ?_;rw[hcB])|(with_reducible refine LC.at ?_)|wp_step)
 exact hq
theorem Fly.land {pins:List (Addr×Obj)}{σ:St}{H1 H':Hp}{s1 s2:Shared}{B h5:Heap}{e C:Addr}{a0:Value} (I:Inv X pins σ H1 s1) (F:Fly X.prog X.w X.stack H1 s1 H' B e (.ref C) a0 s2)
  (fl:Heap.FlyingW B X.stack e (.ref C) a0 h5) (sm:s2.heap.UpToSlots h5):H' e=none/\Inv X pins σ (upd H' e (ExcO e C)) {s2 with heap:=h5}:=by
 obtain⟨oe,vs,hoe,hoc,hod,_⟩:=fl.first
 have nB:B.get? e=none:=fl.2.1
 have trk:∀b o,H' b=some o->b≠e:=λb o q z=>by
  obtain⟨u,hu⟩:=(F.hok b o q).has
  rw[z,nB]at hu;cases hu
 have hHe:H' e=none:=by
  cases q:H' e with
  |none=>rfl
  |some o=>exact absurd rfl (trk e o q)
 have nfr:e∉frs X.stack:=λhb=>by
  obtain⟨_,o,ho,hd⟩:=fl.2.2.1.mem hb
  rw[hoe]at ho;cases ho
  exact hd _ hod
 have frd:∀b o,s1.heap.get? b=some o->b∈frs X.stack->∀vs,o.data≠.fields vs:=λb o q hb=>by
  obtain⟨_,o',ho,hd⟩:=I.stack.mem hb
  rw[q]at ho;cases ho
  exact hd
 refine⟨hHe,I.call' (s':={s2 with heap:=h5}) (ch:=[]) F.os ⟨λb o q n nb _=>fl.1 b o (F.keep b o q n nb),λb o q n hb _=>?_,λb o q n _=>?_,λb o q _=>?_,λb xs q=>?_,λb o u q=>?_,λb ps q=>?_⟩ (λa o q=>?_) F.bare λb z=>absurd z (by simp)⟩
 ·obtain⟨sl,z⟩:=F.slot b o q hb (frd b o q hb)
  obtain⟨sl2,z2⟩:=sm b _ z (frd b o q hb)
  exact⟨sl2,z2⟩
 ·rw[Zh]
  ·exact F.free b o q n
  ·intro z
   by_cases hb:b∈frs X.stack
   ·exact nfr (z▸hb)
   ·have:=F.keep b o q n hb
    rw[z,nB]at this;cases this
 ·by_cases hb:b∈frs X.stack
  ·obtain⟨sl,z⟩:=F.slot b o q hb (frd b o q hb)
   obtain⟨sl2,z2⟩:=sm b _ z (frd b o q hb)
   exact⟨_,z2⟩
  ·obtain⟨o',z⟩:=F.there b o q hb
   exact⟨o',fl.1 b o' z⟩
 ·have z:=F.tups b xs q;rw[Zh (trk b _ z)];exact z
 ·have z:=F.frzs b o u q;rw[Zh (trk b _ z)];exact z
 ·obtain⟨m,z⟩:=F.tbls b ps q
  exact⟨m,by rw[Zh (trk b _ z)];exact z⟩
 ·by_cases ha:a=e
  ·subst ha
   rw[Zd]at q;cases q
   exact⟨⟨oe,hoe,hoc⟩,⟨oe,hoe⟩,λh1 h2 ⟨o,z1,z2⟩ k=>⟨o,k o z1,z2⟩⟩
  ·rw[Zh ha]at q
   exact(F.hok a o q).Zgg (λb u _ z=>fl.1 b u z) (λb z=>by rw[Zh (trk b _ z)];exact z) (λb xs z=>by rw[Zh (trk b _ z)];exact z) λb o u z=>by rw[Zh (trk b _ z)];exact z
end
section
variable {P:Program}{w:World}{K:PySem.W.Frag}{mg:Str->Option Value}{base:Heap}
theorem Fun.okX {x qual:Str}{st:Stmt}{f:Addr}{fd:FuncData}{N ps:List Str}{k:Nat}{sp:Sp} (F:Fun K x qual st f fd) (S:FnScope N ps (defScope st)) (len:∀vs H Q E,sp vs H Q E->vs.length=ps.length)
  (hbody:∀(cdv:Value) (A:Around) (outer:List Env) (s:Shared) (H:Hp) (vs:List V) (Q:VK) (E:XK),Room k (A.deeper (envOfC qual (defScope st) s.heap.objs.size f cdv))->sp vs H Q E ->
   ∃t,PSs (Ze6 (CXE P w) P w K mg base N qual (defScope st) f cdv A outer s H E) (defBody st) t/\t {nx:=λ_ H'=>Q .non H',rt:=Q} (start N vs) H):FnOk P w K mg base (CXE P w) (k+1) f fd ps sp:=by
 obtain⟨oc,od,kV,doc,pm,an,cdv,ct,osl,rfl,lk,hcd⟩:=F.ex
 exact fn_of lk hcd S len λA outer s H vs Q E hr hsp=>hbody cdv A outer s H vs Q E hr hsp
end
end L2
namespace L2
open PySem PySem.Spec PyProof.Rows PySem.W
theorem ZdS:∀{ns:List Int}{us:List Value},Vals (ns.map V.int) us->∃xs:Array (Int×Tok),us.toArray=intItems xs/\xs.toList.map (·.1)=ns
 |[],_,.nil=>⟨#[],by simp[intItems],rfl⟩
 |n::ns,_,.cons (b:=u) r t=>by
  obtain⟨tk,rfl⟩:=(show ∃t,u=Value.int n t from r)
  obtain⟨xs,e1,e2⟩:=ZdS t
  refine⟨#[(n,tk)]++xs,?_,by simp[e2]⟩
  have:∀(l:List Value),(Value.int n tk::l).toArray=#[Value.int n tk]++l.toArray:=λl=>by simp
  rw[this,e1]
  simp[intItems]
section
variable {X:Cx}
theorem Z1:OpR X (binaryOp .Mult) (rI IntMulOk λi j=>.int (i*j)):=opI λ_ _ _ _ _ _ _ hc q=>mul_int q hc
noncomputable def rSum (K:Frag):List V->Hp->VK->Prop:=λxs H Q=>∃(p:Addr) (ns:List Int),xs=[.ref p]/\SqL K H p (ns.map V.int)/\Q (.int ns.sum) H
theorem ZhS (hc:X.calm=true):Za7 X (.builtin "sum") (rSum X.K):=by
 intro pins s σ H xs us Q I r h
 obtain⟨p,ns,rfl,hp,q⟩:=h
 obtain⟨u,rfl,ru⟩:=r.one
 cases(show u=Value.ref p from ru)
 obtain⟨its,rv,pl,hz⟩:=I.list hp
 obtain⟨ys,e1,e2⟩:=ZdS rv
 refine sum_intListG (xs:=ys) (I.ok.hd hc) (e1▸pl.isList) λh' tk t' k=>⟨.int ns.sum,H,I.kept k,⟨t',?_⟩,q⟩
 congr 1
 rw[preSum_eq,<-e2,List.take_of_length_le (by simp)]
noncomputable def PJ (X:Cx) (es:List (Sem Value)) (t:St->Hp->(Hp->Prop)->Prop):Prop :=
 ∀(out:Str) (pins:List (Addr×Obj)) (s:Shared) (σ:St) (H:Hp) (Q:Hp->Prop),out.length+2000*es.length<=100000->Inv X pins σ H s->t σ H Q ->
  wpAny (model X.prog X.w) X.A (joinParts out es) (λu s'=>∃y tk H',u=.str y tk/\Inv X pins σ H' s'/\Q H') X.xe s
theorem Zhk:PJ X [] (λ_ H Q=>Q H):=λout pins s σ H Q hl I h =>
 joinParts_nil ⟨out,_,H,rfl,I.tok _,h⟩ (by simp at hl;exact Yn hl (by decide))
theorem Zb6 {x:Str}{j:Nat}{pos:Pos}{es:List (Sem Value)}{t:St->Hp->(Hp->Prop)->Prop} (hx:x.length<=2000) (h:PJ X es t):PJ X (eval (.Constant (.str x) j pos) X.env::es) t:=by
 intro out pins s σ H Q hl I hq
 have hl':(out++x).length+2000*es.length<=100000:=by rw[PySem.strLen_append];simp at hl;omega
 refine joinParts_cons (Calls.Constant_str ⟨Yn (Yn (Nat.le_add_right _ _) hl') (by decide),?_⟩)
 exact h _ pins _ σ H Q hl' (I.tok _) hq
theorem Zkg {i:Int} (h0:0<=i) (h1:i<10 ^ 18):i.natAbs.log2<1920:=by
 by_cases hz:i.natAbs=0
 ·rw[hz];decide
 ·have h3:i.natAbs<2 ^ 60:=by
   have:(2:Nat) ^ 60=1152921504606846976:=by decide
   have h2:(10:Int) ^ 18=1000000000000000000:=by decide
   omega
  exact Yt ((Nat.log2_lt hz).mpr h3) (by decide)
theorem Zhl {e:Expr}{pos:Pos}{es:List (Sem Value)}{te:TE}{t:St->Hp->(Hp->Prop)->Prop} (he:PE X e te) (h:PJ X es t):PJ X (eval (.FormattedValue e (-1) none pos) X.env::es) (fun σ H Q=>te σ H λx H1=>∃i:Int,x=.int i/\(0<=i/\i<10 ^ 18)/\t σ H1 Q):=by
 intro out pins s σ H Q hl I hq
 refine joinParts_cons (FormattedValue_plain (thn (he pins s σ H _ I hq) λu s1 ⟨x,H1,I1,r1,i,ex,⟨h0,h1⟩,q⟩=>?_))
 subst ex
 obtain⟨tk,rfl⟩:=(show ∃t,u=Value.int i t from r1)
 refine wpAny_formatField_int (Zkg h0 h1) ?_
 have hx:(Str.ofString (toString i)).length<=18:=toString_length_le h0 (by decide) h1
 have hl':(out++Str.ofString (toString i)).length+2000*es.length<=100000:=by rw[PySem.strLen_append];simp at hl;omega
 refine⟨Yn (Yn (Nat.le_add_right _ _) hl') (by decide),?_⟩
 exact h _ pins _ σ H1 Q hl' (I1.tok _) q
theorem ZhT (env:Env):∀l:List Expr,(evalEach l env).length=l.length
 |[]=>rfl
 |e::r=>by
  have:evalEach (e::r) env=eval e env::evalEach r env:=rfl
  rw[this,Yz,Yz,ZhT env r]
theorem Zc9 {e1 e2:Expr}{rest:List Expr}{pos:Pos}{t:St->Hp->(Hp->Prop)->Prop} (h:PJ X (eval e1 X.env::eval e2 X.env::evalEach rest X.env) t) (hn:rest.length<=20:=by decide) :
  PE X (.JoinedStr (e1::e2::rest) pos) (fun σ H Q=>t σ H λH1=>∀y,Q (.str y) H1):=by
 intro pins s σ H Q I hq
 have hle:=ZhT X.env rest
 refine JoinedStr_many (thn (h Str.empty pins s σ H _ (by simp only[Yz,hle];show 0+_<=_;omega) I hq) λu s' ⟨y,tk,H',e,I',q⟩=>?_)
 subst e
 exact⟨.str y,H',I',⟨tk,rfl⟩,q y⟩
end
noncomputable def clsAt (mg:Str->Option Value) (x:Str):Addr:=match mg x with
 |some (.ref C)=>C
 |_=>0
noncomputable def tokAt (mg:Str->Option Value) (x:Str):Tok:=match mg x with
 |some (.int _ t)=>t
 |_=>default
noncomputable def Callee (P:Program) (w:World) (K:Frag) (mg:Str->Option Value) (base:Heap) (x:Str) (k:Nat) (ps:List Str) (sp:Sp):Prop :=
 ∃f fd,mg x=some (.ref f)/\keepIn K (.ref f)=true/\Binds K fd ps []/\FnOk P w K mg base (CXE P w) k f fd ps sp
section
variable {X:Cx}
theorem Za1 {st:Stmt}{t:TS} (h:PS X.nox st t):PS X st t:=λpins s σ H D I hw =>
 YT (h pins s σ H D (I.Zgh _) hw) (λ_ _ q=>q.ZcA) λ_ _ z=>False.elim z
theorem Zj {x:Str}{k:Nat}{ps:List Str}{sp:Sp}{E:XK}{e:Expr}{es:List Expr}{t:TA}{p pos:Pos} (C:Callee X.prog X.w X.K X.mg X.base x k ps sp) (hr:Room k X.A) (hg:Gl X x) (hx:Passes (CXE X.prog X.w) X E)
  (ha:PA X (e::es) t) (hdb:(x==("__debug__":Str))=false:=by decide) (he:starEach (e::es) X.env=(false,eval e X.env)::starEach es X.env:=by rfl) (hpl:(backTo pos (starEach es X.env)).any (·.1)=false:=by rfl) :
  PE X (.Call (.Name x p) (e::es) [] pos) (tCall sp [] E t):=by
 obtain⟨f,fd,hm,hk,hb,F⟩:=C
 exact ZmN F hr hg hm hk hb .nil hx ha hdb he hpl
theorem Zda {P:Program}{w:World}{K:Frag}{mg:Str->Option Value}{base:Heap}{N:List Str}{qual:Str}{scope:Scope}{f:Addr}{cd:Value}{A:Around}{outer:List Env}{s0:Shared}{H0:Hp}{E:XK}{C:Addr} :
  ∀pins σ H s h' e vs,Inv (Ze6 (CXE P w) P w K mg base N qual scope f cd A outer s0 H0 E) pins σ H s->Heap.MadeExcOf s.heap h' e (.ref C) vs->E (.ref C) none H->(Ze6 (CXE P w) P w K mg base N qual scope f cd A outer s0 H0 E).xe (.ref e) {s with heap:=h'} :=
 λ_ _ _ _ _ _ _ I hx hE=>Zhj I hx hE
end
theorem Zlv:bootBuiltins "max"=some (.builtin "max"):=by decide +kernel
theorem Zlw:bootBuiltins "min"=some (.builtin "min"):=by decide +kernel
theorem ZiT:bootBuiltins "sum"=some (.builtin "sum"):=by decide +kernel
theorem Zdh:bootBuiltins "isinstance"=some (.builtin "isinstance"):=by decide +kernel
theorem Zav:bootBuiltins "tuple"=some (.type "tuple"):=by decide +kernel
section
variable {X:Cx}{pins:List (Addr×Obj)}{σ:St}{H:Hp}{s:Shared}{h':Heap}
theorem Inv.ZmT {t':Nat}{fp:List Addr} (I:Inv X pins σ H s) (k:∀b o,b∉fp->s.heap.get? b=some o->h'.get? b=some o) (hf:∀b∈fp,FpOk X pins H b):Inv X pins σ H {s with heap:=h',toks:=t'}:=by
 have nit:∀b u,H b=some u->b∉fp:=λb u e z=>by rw[(hf b z).1]at e;cases e
 refine I.step (g':=s.gens) (d':=s.drawn) (ch:=fp) (λb hb=>?_) (λb o _ _ hc e _=>k b o hc e) (λb o _ _ hc e _=>⟨o.slots,k b o hc e⟩) (λ_ _ _ _ n=>n)
  (λb o hc e=>⟨o,k b o hc e⟩) (λ_ _ e=>e) (λ_ _ _ e=>e) (λb ps e=>⟨#[],by rw[e];simp⟩) (λm hm=>?_) (λb u e=>?_) I.bare
 ·obtain⟨_,f1,_,f3,f4,f5⟩:=hf b hb
  exact⟨f3,f1,f4,f5⟩
 ·obtain⟨o,es,ep,ho,r⟩:=hm
  exact⟨o,es,ep,k _ o (λz=>(hf _ z).2.1 rfl) ho,r⟩
 ·refine(I.hok b u e).Zgg (λc v hc q=>k c v ?_ q) (λ_ q=>q) (λ_ _ q=>q) λ_ _ _ q=>q
  rcases hc with z|z
  ·rw[z];exact nit b u e
  ·exact nit c _ z
end
theorem cxK {CX:CXT}{P:Program}{w:World}{K:Frag}{mg:Str->Option Value}{base:Heap}{N:List Str}{qual:Str}{scope:Scope}{f:Addr}{cd:Value}{A:Around}{outer:List Env}{s:Shared}{H:Hp}{E:XK} :
  (Ze6 CX P w K mg base N qual scope f cd A outer s H E).K=K:=rfl
theorem Zf.upd {H H1:Hp}{p:Addr}{o:HO} (h:H p=none) (e:Zf H H1):Zf H (upd H1 p o):=λb u z=>by
 rw[Zh (Zt z h)];exact e b u z
theorem Zf.ZL {H H1:Hp}{p:Addr}{o:HO} (e:Zf H H1) (h:H1 p=none):Zf H (L2.upd H1 p o):=e.upd (e.free h)
noncomputable def LoopR (J:It) (g:TG) (tb:TS) (D:Ends) (σ:St) (H1:Hp):Prop:=∃W:Nat->Nat->St->Hp->Prop,(∃m,W 0 m σ H1)/\∀i m σ H,W i m σ H ->
 (J.stop i H/\D.nx σ H)\/(J.go i H/\∃N:St->Hp->Prop,(∀σ' H',N σ' H'->∃m',m'<m/\W (i+1) m' σ' H')/\∀x H',J.yld i H x H'->g x σ H' fun σ2 H2=>tb {D with nx:=N,ct:=N,bk:=D.nx} σ2 H2)
theorem ZjC {wi:TI}{g:TG}{tb:TS}{D:Ends}{σ:St}{H:Hp}:tFor wi g tb D σ H=wi σ H λJ H1=>LoopR J g tb D σ H1:=rfl
noncomputable def Zlx (c:TT) (tb:TS) (D:Ends) (σ:St) (H:Hp):Prop:=ZiO c tb D σ H
theorem ZgD {c:TT}{tb:TS}{D:Ends}{σ:St}{H:Hp}:ZiO c tb D σ H=Zlx c tb D σ H:=rfl
noncomputable def ZhU (J:It) (g:TG) (tt:TT) (te:TE) (σ0:St) (Q:VK) (H1:Hp):Prop:=∃W:Nat->Nat->List V->Hp->Prop,(∃m,W 0 m [] H1)/\∀i m acc H,W i m acc H ->
 (J.stop i H/\acc.length<=sizeLine/\∀p,H p=none->Q (.ref p) (upd H p (.lst acc))) \/
 (J.go i H/\acc.length<sizeLine/\∀x H',J.yld i H x H'->g x σ0 H' fun σ2 H2=>tt σ2 H2 λb H3=>if b=true then te σ2 H3 λv H4=>∃m',m'<m/\W (i+1) m' (acc++[v]) H4 else ∃m',m'<m/\W (i+1) m' acc H3)
theorem ZhV {wi:TI}{g:TG}{tt:TT}{te:TE}{js:List (Option Nat)}{σ:St}{H:Hp}{Q:VK}:ZjB wi g tt te js σ H Q=wi σ H λJ H1=>ZhU J g tt te (iniC js σ) Q H1:=rfl
noncomputable def CW (n:Nat) (vals:Nat->V) (H1:Hp) (i m:Nat) (acc:List V) (H:Hp):Prop:=m=n-i/\i<=n/\acc=(List.range i).map vals/\Zf H1 H
theorem CW.next {n:Nat}{vals:Nat->V}{H1 H:Hp}{i:Nat}{v:V} (hi:i<n) (hv:v=vals i) (s:Zf H1 H):∃m',m'<n-i/\CW n vals H1 (i+1) m' ((List.range i).map vals++[v]) H :=
 ⟨n-(i+1),by omega,rfl,hi,by rw[YR,Y8,hv];rfl,s⟩
theorem comp_map {J:It}{n:Nat}{H1:Hp}{g:TG}{tt:TT}{te:TE}{σ0:St}{Q:VK} (vals:Nat->V) (hn:n<sizeLine) (hgo:∀i H,Zf H1 H->i<n->J.go i H) (hstop:∀H,Zf H1 H->J.stop n H)
  (hb:∀i x H H',i<n->Zf H1 H->J.yld i H x H'->g x σ0 H' fun σ2 H2=>tt σ2 H2 λb H3=>if b=true then te σ2 H3 λv H4=>∃m',m'<n-i/\CW n vals H1 (i+1) m' ((List.range i).map vals++[v]) H4 else ∃m',m'<n-i/\CW n vals H1 (i+1) m' ((List.range i).map vals) H3)
  (hk:∀l H',Zf H1 H'->H' l=none->Q (.ref l) (upd H' l (.lst ((List.range n).map vals)))) :
  ZhU J g tt te σ0 Q H1:=by
 refine⟨CW n vals H1,⟨n,rfl,Yp _,rfl,Zf.refl _⟩,?_⟩
 rintro i m acc H ⟨rfl,hi,rfl,s⟩
 by_cases h:i<n
 ·refine .inr ⟨hgo i H s h,by simpa using Nat.lt_trans h hn,λx H' y=>hb i x H H' h s y⟩
 ·have e:i=n:=by omega
  subst e
  exact .inl ⟨hstop H s,by simpa using YX hn,λp hp=>hk p H s hp⟩
theorem ZiU {α:Type}{xs:List α}{i:Int}{j:Nat} (h:i=(j:Int)) (hj:j<xs.length):atI xs i=some xs[j]:=by
 subst h
 unfold atI ixN
 rw[Yc (by omega),Yc (by omega)]
 simp
theorem mul_r {a b:Int} (h1:-(2 ^ 64)<b) (h2:b<2 ^ 64):IntMulOk a b:=IntMulOk.of_right (intBits_le_64 h1 h2)
theorem ZdT {a b:Int} (h1:-(2 ^ 64)<a) (h2:a<2 ^ 64):IntMulOk a b:=IntMulOk.of_left (intBits_le_64 h1 h2)
theorem Zhm {a b:Int} (ha:Builtin.Int.intBits a<=2 ^ 20) (hb:Builtin.Int.intBits b<=2 ^ 20):IntMulOk a b:=IntMulOk.of_bits ha hb
theorem cp18:Zj4 10 18:=by unfold Zj4;decide
noncomputable def Exc (p:Addr) (H H':Hp):Prop:=∀b o,b≠p->H b=some o->H' b=some o
theorem Zf.exc {H H1 H2:Hp}{p:Addr} (s:Zf H H1) (h:H p=none) (e:Exc p H1 H2):Zf H H2:=λb o z=>e b o (Zt z h) (s b o z)
theorem Exc.upd {H:Hp}{p:Addr}{o:HO}:Exc p H (L2.upd H p o):=λb u n z=>by rw[Zh n];exact z
theorem range_getD {α β:Type} (xs:List α) (d:α) (f:α->β) (n:Nat) (h:n=xs.length):(List.range n).map (λj=>f (xs.getD j d))=xs.map f:=by
 subst h
 refine List.ext_getElem (by simp) λj h1 h2=>?_
 have hj:j<xs.length:=by simpa using h1
 simp[Yg,hj]
theorem Zbj {K:Frag}{H:Hp}{p:Addr}{xs:List V} (h:H p=some (.lst xs)):tyV K "list" (.ref p) H:=.inl ⟨rfl,_,SqL.of h⟩
theorem ZjD {i j:Int}:ZhN (.int i) (.int j)=true:=rfl
theorem ZjE {i j:Bool}:ZhN (.bl i) (.bl j)=true:=rfl
theorem ZjF {i j:Str}:ZhN (.str i) (.str j)=true:=rfl
theorem ZjG:ZhN .non .non=true:=rfl
theorem ZjH {i:Int}:ZhN .non (.int i)=true:=rfl
theorem ZjI {i:Int}:ZhN (.int i) .non=true:=rfl
section
variable {X:Cx}
noncomputable def rLen (K:Frag):List V->Hp->VK->Prop:=λxs H Q=>∃p ys,xs=[.ref p]/\(SqL K H p ys\/SqT K H p ys)/\Q (.int ys.length) H
theorem Zk {K:Frag} (hK:X.K=K):Za7 X (.builtin "len") (rLen K):=by subst hK;exact Zhg
noncomputable def rTof (K:Frag):List V->Hp->VK->Prop:=λxs H Q=>∃p ys,xs=[.ref p]/\((SqL K H p ys/\∀l,H l=none->Q (.ref l) (upd H l (.tup ys)))\/(SqT K H p ys/\Q (.ref p) H))
theorem ZaI {K:Frag} (hK:X.K=K):Za7 X (.type "tuple") (rTof K):=by subst hK;exact Zgi
theorem ZgE {K:Frag} (hK:X.K=K):Za7 X (.builtin "isinstance") (rIsi K):=by subst hK;exact Zlt
end
theorem ZhW {K:Frag}{t:Value}:kitOne K t t=some true:=by unfold kitOne;simp
theorem ZjJ {K:Frag}{A C:Addr}{b:Bool} (ne:A≠C) (h1:hasDictIn K C=true) (h2:typeIn K (.ref C)=some (.type "type")) (h3:subIn K (.ref A) (.ref C)=some b):kitOne K (.ref A) (.ref C)=some b:=by
 obtain⟨cd,hc,_⟩:=any_some h1
 unfold kitOne
 rw[Yb (by intro z;exact ne (Value.ref.inj (beq_iff_eq.mp z)))]
 unfold kitCls
 dsimp only
 rw[Yc (by rw[hc,h2];rfl)]
 exact h3
theorem kit_V {K:Frag}{A:Addr}{b:Bool} (h:subIn K (.ref A) (.type "ValueError")=some b):kitOne K (.ref A) (.type "ValueError")=some b:=by
 unfold kitOne
 rw[Yb (by intro z;cases beq_iff_eq.mp z)]
 unfold kitCls
 dsimp only
 rw[Yc (by decide +kernel)]
 exact h
theorem ZjK {a:Addr}{x:Value}:(cOf (.ref a)=some x)=(.ref a=x):=by simp[cOf]
theorem Zly {n:String}{x:Value}:(cOf (.ty n)=some x)=(.type n=x):=by simp[cOf]
noncomputable def Rows (H:Hp) (l:Addr) (rs:List (List Int)):Prop:=∃as:List Addr,H l=some (.lst (as.map V.ref))/\l∉as/\as.length=rs.length/\∀i (h1:i<as.length) (h2:i<rs.length),H as[i]=some (.lst (rs[i].map V.int))
inductive EqD (K:Frag) (H:Hp):Nat->V->V->Bool->Prop
 |flat {n:Nat}{x y:V} (fx:flatV x=true) (fy:flatV y=true):EqD K H n x y (eqV x y)
 |lst {n:Nat}{a b:Addr}{xs ys:List V} (e:Nat->Bool) (hx:SqL K H a xs) (hy:SqL K H b ys) (hl:xs.length=ys.length) (h:∀j x y,xs[j]?=some x->ys[j]?=some y->EqD K H n x y (e j)):EqD K H (n+1) (.ref a) (.ref b) ((List.range xs.length).all e)
 |len {n:Nat}{a b:Addr}{xs ys:List V} (hx:SqL K H a xs) (hy:SqL K H b ys) (hl:xs.length≠ys.length):EqD K H (n+1) (.ref a) (.ref b) false
 |tup {n:Nat}{a b:Addr}{xs ys:List V} (e:Nat->Bool) (hx:SqT K H a xs) (hy:SqT K H b ys) (h:∀j x y,xs[j]?=some x->ys[j]?=some y->EqD K H n x y (e j)):EqD K H (n+1) (.ref a) (.ref b) ((List.range (min xs.length ys.length)).all e&&xs.length==ys.length)
theorem Zlz {x:V} (h:flatV x=true):eqV x x=true:=by
 cases x<;>first
  |rfl
  |(simp[eqV];done)
  |cases h
section
variable {X:Cx}{pins:List (Addr×Obj)}{σ:St}{H:Hp}{s:Shared}
theorem ZhX (I:Inv X pins σ H s) {n:Nat}{x y:V}{b:Bool} (h:EqD X.K H n x y b):x=y->b=true:=by
 induction h with
 |flat fx fy=>rintro rfl;exact Zlz fx
 |lst e hx hy hl h ih =>
  intro z
  cases z
  have:=I.ZdP hx hy
  subst this
  refine List.all_eq_true.mpr λj hj=>?_
  have hj':=Yr.mp hj
  exact ih j _ _ (Yf hj') (Yf hj') rfl
 |len hx hy hl =>
  intro z
  cases z
  have:=I.ZdP hx hy
  subst this
  exact absurd rfl hl
 |tup e hx hy h ih =>
  intro z
  cases z
  have:=I.Zel hx hy
  subst this
  rw[Nat.min_self]
  have:(List.range _).all e=true:=List.all_eq_true.mpr λj hj=>by
   have hj':=Yr.mp hj
   exact ih j _ _ (Yf hj') (Yf hj') rfl
  rw[this];simp
theorem ZlA (I:Inv X pins σ H s) {n:Nat}{x y:V}{b:Bool} (h:EqD X.K H n x y b):∀(A:Around) (u v:Value),A.units+n<cLine->RelV x u->RelV y v->SeqAt.EqAt A s u v b:=by
 induction h with
 |flat fx fy=>intro A u v _ ru rv;exact Zlm ru rv fx fy
 |@lst n a b xs ys e hx hy hl h ih =>
  intro A u v hu ru rv
  have hb:=ZhX I (.lst e hx hy hl h)
  cases ru
  cases rv
  by_cases hab:a=b
  ·subst hab
   rw[hb rfl];exact SeqAt.EqAt.same _
  ·obtain⟨is1,r1,p1,_⟩:=I.list hx
   obtain⟨is2,r2,p2,_⟩:=I.list hy
   have e1:=r1.length
   have e2:=r2.length
   have key:=SeqAt.RcAt.lists (A:=A) (s:=s) (e:=e) p1.isList p2.isList (by simp;omega) (by omega) λj h1 h2=>by
    have h1':j<xs.length:=by simpa[e1]using h1
    have h2':j<ys.length:=by simpa[e2]using h2
    obtain⟨u,hu1,ru⟩:=r1.get (Yf h1')
    obtain⟨v,hv1,rv⟩:=r2.get (Yf h2')
    have eu:is1.toArray[j]=u:=by simpa using(Yw.mp hu1).2
    have ev:is2.toArray[j]=v:=by simpa using(Yw.mp hv1).2
    rw[eu,ev]
    exact ih j _ _ (Yf h1') (Yf h2') A.in1 u v (by show A.units+1+n<cLine;omega) ru rv
   have e3:is1.toArray.size=xs.length:=by simp[e1]
   rw[e3]at key
   exact SeqAt.EqAt.of_refs hab key
 |@len n a b xs ys hx hy hl =>
  intro A u v hu ru rv
  cases ru
  cases rv
  have hab:a≠b:=λz=>by subst z;exact hl (congrArg List.length (I.ZdP hx hy))
  obtain⟨is1,r1,p1,_⟩:=I.list hx
  obtain⟨is2,r2,p2,_⟩:=I.list hy
  have e1:=r1.length
  have e2:=r2.length
  exact SeqAt.EqAt.of_refs hab (SeqAt.RcAt.lists_lengths p1.isList p2.isList (by simp;omega) (by omega))
 |@tup n a b xs ys e hx hy h ih =>
  intro A u v hu ru rv
  have hb:=ZhX I (.tup e hx hy h)
  cases ru
  cases rv
  by_cases hab:a=b
  ·subst hab
   rw[hb rfl];exact SeqAt.EqAt.same _
  ·obtain⟨is1,r1,p1,_⟩:=I.tuple hx
   obtain⟨is2,r2,p2,_⟩:=I.tuple hy
   have e1:=r1.length
   have e2:=r2.length
   have key:=SeqAt.RcAt.tuples (A:=A) (s:=s) (e:=e) p1 p2 (by omega) λj h1 h2=>by
    have h1':j<xs.length:=by simpa[e1]using h1
    have h2':j<ys.length:=by simpa[e2]using h2
    obtain⟨u,hu1,ru⟩:=r1.get (Yf h1')
    obtain⟨v,hv1,rv⟩:=r2.get (Yf h2')
    have eu:is1.toArray[j]=u:=by simpa using(Yw.mp hu1).2
    have ev:is2.toArray[j]=v:=by simpa using(Yw.mp hv1).2
    rw[eu,ev]
    exact ih j _ _ (Yf h1') (Yf h2') A.in1 u v (by show A.units+1+n<cLine;omega) ru rv
   have e3:is1.toArray.size=xs.length:=by simp[e1]
   have e4:is2.toArray.size=ys.length:=by simp[e2]
   rw[e3,e4]at key
   exact SeqAt.EqAt.of_refs hab key
end
noncomputable def rEqD (K:Frag) (neg:Bool):R2:=λx y H Q=>∃a b k,x=.ref a/\y=.ref b/\EqD K H 3 x y k/\Q (.bl (if neg then !k else k)) H
section
variable {X:Cx}
theorem ZlB {K:Frag} (hK:X.K=K) {k:Nat} (hr:Room k X.A):OpR X (compareOp .Eq) (rEqD K false):=by
 subst hK
 have hu0:=hr.un
 intro pins s σ H x y v u Q I rx ry h
 obtain⟨a,b,k,rfl,rfl,h,q⟩:=h
 cases rx
 cases ry
 cases h with
 |flat fx fy=>cases fx
 |@lst n _ _ xs ys e hx hy hl h =>
  obtain⟨is1,r1,p1,_⟩:=I.list hx
  obtain⟨is2,r2,p2,_⟩:=I.list hy
  have e1:=r1.length
  have e2:=r2.length
  have e3:is1.toArray.size=xs.length:=by simp[e1]
  refine SeqAt.eq_listAt (e:=e) p1.isList p2.isList (by simp;omega) (by omega) (λj h1 h2=>?_) ⟨.bl _,H,I,rfl,by rw[e3];exact q⟩
  have h1':j<xs.length:=by simpa[e1]using h1
  have h2':j<ys.length:=by simpa[e2]using h2
  obtain⟨u,hu1,ru⟩:=r1.get (Yf h1')
  obtain⟨v,hv1,rv⟩:=r2.get (Yf h2')
  have eu:is1.toArray[j]=u:=by simpa using(Yw.mp hu1).2
  have ev:is2.toArray[j]=v:=by simpa using(Yw.mp hv1).2
  rw[eu,ev]
  exact ZlA I (h j _ _ (Yf h1') (Yf h2')) X.A.in1 u v (by show X.A.units+1+2<cLine;omega) ru rv
 |@len n _ _ xs ys hx hy hl =>
  obtain⟨is1,r1,p1,_⟩:=I.list hx
  obtain⟨is2,r2,p2,_⟩:=I.list hy
  have e1:=r1.length
  have e2:=r2.length
  exact SeqAt.eq_list_lengthsAt p1.isList p2.isList (by simp;omega) (by omega) ⟨.bl _,H,I,rfl,q⟩
 |@tup n _ _ xs ys e hx hy h =>
  obtain⟨is1,r1,p1,_⟩:=I.tuple hx
  obtain⟨is2,r2,p2,_⟩:=I.tuple hy
  have e1:=r1.length
  have e2:=r2.length
  have e3:is1.toArray.size=xs.length:=by simp[e1]
  have e4:is2.toArray.size=ys.length:=by simp[e2]
  refine SeqAt.eq_tupleAt (e:=e) p1 p2 (by omega) (λj h1 h2=>?_) ⟨.bl _,H,I,rfl,by rw[e3,e4];exact q⟩
  have h1':j<xs.length:=by simpa[e1]using h1
  have h2':j<ys.length:=by simpa[e2]using h2
  obtain⟨u,hu1,ru⟩:=r1.get (Yf h1')
  obtain⟨v,hv1,rv⟩:=r2.get (Yf h2')
  have eu:is1.toArray[j]=u:=by simpa using(Yw.mp hu1).2
  have ev:is2.toArray[j]=v:=by simpa using(Yw.mp hv1).2
  rw[eu,ev]
  exact ZlA I (h j _ _ (Yf h1') (Yf h2')) X.A.in1 u v (by show X.A.units+1+2<cLine;omega) ru rv
end
noncomputable def IsI (v:V) (i:Int):Prop:=v=.int i
noncomputable def IsL (K:Frag) (H:Hp) {α:Type} (P:V->α->Prop) (v:V) (as:List α):Prop:=∃a xs,v=.ref a/\SqL K H a xs/\xs.length=as.length/\∀(j:Nat) (x:V) (y:α),xs[j]?=some x->as[j]?=some y->P x y
noncomputable def IsT (K:Frag) (H:Hp) {α:Type} (P:V->α->Prop) (v:V) (as:List α):Prop:=∃a xs,v=.ref a/\SqT K H a xs/\xs.length=as.length/\∀(j:Nat) (x:V) (y:α),xs[j]?=some x->as[j]?=some y->P x y
noncomputable def EqP (K:Frag) (H:Hp) (n:Nat) {α:Type} [DecidableEq α] (P:V->α->Prop):Prop:=∀x y a b,P x a->P y b->EqD K H n x y (decide (a=b))
theorem ZjL {K:Frag}{H:Hp}{n:Nat}:EqP K H n IsI:=by
 rintro x y a b rfl rfl
 have:=EqD.flat (K:=K) (H:=H) (n:=n) (x:=.int a) (y:=.int b) rfl rfl
 have e:eqV (.int a) (.int b)=decide (a=b):=by simp[eqV,Bool.beq_eq_decide_eq]
 rw[<-e];exact this
theorem all_eq {α:Type} [DecidableEq α] (as bs:List α) (h:as.length=bs.length):(List.range as.length).all (λj=>decide (as[j]?=bs[j]?))=decide (as=bs):=by
 rw[Bool.eq_iff_iff,List.all_eq_true,decide_eq_true_iff]
 constructor
 ·intro q
  refine List.ext_getElem? λj=>?_
  by_cases hj:j<as.length
  ·simpa using q j (Yr.mpr hj)
  ·rw[List.getElem?_eq_none (by omega),List.getElem?_eq_none (by omega)]
 ·rintro rfl j _;simp
theorem ZjM {K:Frag}{H:Hp}{n:Nat}{α:Type} [DecidableEq α] {P:V->α->Prop} (h:EqP K H n P):EqP K H (n+1) (IsT K H P):=by
 rintro x y as bs ⟨a,xs,rfl,hx,lx,px⟩ ⟨b,ys,rfl,hy,ly,py⟩
 have key:=EqD.tup (K:=K) (H:=H) (n:=n) (λj=>decide (as[j]?=bs[j]?)) hx hy λj x y h1 h2=>by
  have j1:=(Yw.mp h1).1
  have j2:=(Yw.mp h2).1
  have ha:as[j]?=some as[j]:=Yf (by omega)
  have hb:bs[j]?=some bs[j]:=Yf (by omega)
  have:=h x y _ _ (px j _ _ h1 ha) (py j _ _ h2 hb)
  rw[ha,hb]
  simpa using this
 have e:((List.range (min xs.length ys.length)).all (λj=>decide (as[j]?=bs[j]?))&&xs.length==ys.length)=decide (as=bs):=by
  rw[lx,ly]
  by_cases hl:as.length=bs.length
  ·rw[<-hl,Nat.min_self,all_eq as bs hl];simp
  ·have e:decide (as=bs)=false:=by simp;intro z;exact hl (congrArg List.length z)
   rw[e]
   simp[hl]
 rw[e]at key
 exact key
theorem ZdU {K:Frag}{H:Hp}{a:Addr}{ns:List Int} (h:SqT K H a (ns.map V.int)):IsT K H IsI (.ref a) ns:=⟨a,_,rfl,h,by simp,λj x y h1 h2=>by
 rw[YB,h2]at h1
 exact(YA h1).symm⟩
section
variable {X:Cx}
noncomputable def rAll (K:Frag):List V->Hp->VK->Prop:=λxs H Q=>∃(p:Addr) (bs:List Bool),xs=[.ref p]/\SqL K H p (bs.map V.bl)/\Q (.bl (bs.all id)) H
theorem all_ix (bs:List Bool):(List.range bs.length).all (λi=>bs.getD i false)=bs.all id:=by
 rw[Bool.eq_iff_iff,List.all_eq_true,List.all_eq_true]
 constructor
 ·intro h x hx
  obtain⟨j,hj,rfl⟩:=Y3 hx
  have:=h j (Yr.mpr hj)
  simpa[Yg,hj]using this
 ·intro h j hj
  have hj':=Yr.mp hj
  have:=h _ (YV hj')
  simpa[Yg,hj']using this
theorem ZhY {prog:Program}{w:World}{A:Around}{bs:List Bool}{its:List Value} (r:Vals (bs.map V.bl) its):TruthOf prog w A (λi v=>its.toArray[i]?=some v) (λi=>bs.getD i false):=by
 intro i v s Q E hv hq
 have hv':its[i]?=some v:=by simpa using hv
 have hl:=r.length
 have hi:i<bs.length:=by
  have:=(Yw.mp hv').1
  rw[Yh]at hl;omega
 obtain⟨u,hu,ru⟩:=r.get (i:=i) (x:=V.bl bs[i]) (by rw[YB,Yf hi];rfl)
 rw[hv']at hu
 cases hu
 cases ru
 refine wpAny_truthy_bool ?_
 simpa[Yg,hi]using hq
theorem ZlC {K:Frag} (hK:X.K=K) (hc:X.calm=true):Za7 X (.builtin "all") (rAll K):=by
 subst hK
 intro pins s σ H xs us Q I r h
 obtain⟨p,bs,rfl,hp,q⟩:=h
 obtain⟨u,rfl,ru⟩:=r.one
 cases(show u=Value.ref p from ru)
 obtain⟨its,r',pl,hz⟩:=I.list hp
 have hl:=r'.length
 refine call_all_walk (wpAny_pyIter_list pl.isList ?_)
 have hne:p≠s.heap.objs.size:=by obtain⟨o,e,_⟩:=pl.isList;exact Yl (Yi e)
 refine⟨s.heap.objs.size,_,_,_,_,_,λi=>bs.getD i false,rfl,Walks.list (A:=X.A.in1) (show X.A.in1.handled=none from I.ok.hd hc) _ p hne its.toArray,⟨⟨_,Yy _ rfl,rfl,rfl⟩,pl.isList.push _⟩,ZhY r',λh' tk kp=>?_⟩
 have e1:its.toArray.size=bs.length:=by rw[Yv];rw[Yh]at hl;omega
 rw[e1,all_ix]
 exact⟨.bl _,H,I.kept (t':=tk) λb o e=>kp b o (by simp;exact Yl (Yi e)) (Ym _ e),rfl,q⟩
noncomputable def rIxQ (K:Frag):R2:=λx y H Q=>∃p xs i v,x=.ref p/\y=.int i/\(SqL K H p xs\/SqT K H p xs)/\atI xs i=some v/\Q v H
theorem ix_q {K:Frag} (hK:X.K=K):IxR X (rIxQ K):=by
 subst hK
 intro value slice pins s σ H x y v u Q I rx ry h hs
 refine(Zat.or Zhd) (value:=value) (slice:=slice) pins s σ H x y v u Q I rx ry ?_ hs
 obtain⟨p,xs,i,v,rfl,rfl,hq,ha,q⟩:=h
 rcases hq with hq|hq
 ·exact .inl ⟨p,xs,i,v,rfl,rfl,hq,ha,q⟩
 ·exact .inr ⟨p,xs,i,v,rfl,rfl,hq,ha,q⟩
theorem bt_all:bootBuiltins "all"=some (.builtin "all"):=by decide +kernel
end
noncomputable def nth (ns:List Int) (i:Nat):Int:=ns.getD i 0
theorem Zeo {ns:List Int}{i:Nat} (h:i<ns.length):atI (ns.map V.int) (i:Int)=some (V.int (nth ns i)):=by
 rw[ZiU rfl (by simpa using h)]
 simp[nth,Yg,h]
noncomputable def WI (N:Nat) (Pv:Nat->St->Hp->Prop) (m:Nat) (σ:St) (H:Hp):Prop:=∃i,m=N-i/\i<=N/\Pv i σ H
theorem WI.next {N:Nat}{Pv:Nat->St->Hp->Prop}{i:Nat}:∀σ' H',(i+1<=N/\Pv (i+1) σ' H')->∃m',m'<N-i/\WI N Pv m' σ' H':=fun σ' H' h=>⟨N-(i+1),by omega,i+1,rfl,h.1,h.2⟩
theorem Zhn {c:TT}{tb:TS}{D:Ends}{σ:St}{H:Hp} (N:Nat) (Pv:Nat->St->Hp->Prop) (h0:Pv 0 σ H)
  (hs:∀i σ H,i<=N->Pv i σ H->c σ H λb H1=>if b=true then ∃Nx:St->Hp->Prop,(∀σ' H',Nx σ' H'->∃m',m'<N-i/\WI N Pv m' σ' H')/\tb {D with nx:=Nx,ct:=Nx,bk:=D.nx} σ H1 else D.nx σ H1):Zlx c tb D σ H:=by
 refine⟨WI N Pv,⟨N,0,rfl,Yp _,h0⟩,?_⟩
 rintro m σ H ⟨i,rfl,hi,p⟩
 exact hs i σ H hi p
theorem Zf.seqT {K:Frag}{H H':Hp}{a:Addr}{xs:List V} (e:Zf H H') (h:SqT K H a xs):SqT K H' a xs:=by
 rcases h with(h|⟨o,h⟩)|h
 ·exact .inl (.inl (e _ _ h))
 ·exact .inl (.inr ⟨o,e _ _ h⟩)
 ·exact .inr h
theorem Zf.q {K:Frag}{H H':Hp}{a:Addr}{xs:List V} (e:Zf H H') (h:SqL K H a xs\/SqT K H a xs):SqL K H' a xs\/SqT K H' a xs:=h.imp e.seq e.seqT
theorem Exc.trans {p:Addr}{H H1 H2:Hp} (a:Exc p H H1) (b:Exc p H1 H2):Exc p H H2:=λc o n z=>b c o n (a c o n z)
noncomputable def CA (n:Nat) (Pv:Nat->List V->Hp->Prop) (i m:Nat) (acc:List V) (H:Hp):Prop:=m=n-i/\i<=n/\acc.length<=i/\Pv i acc H
theorem CA.take {n:Nat}{Pv:Nat->List V->Hp->Prop}{i:Nat}{acc:List V}{v:V}{H:Hp} (hi:i<n) (hl:acc.length<=i) (h:Pv (i+1) (acc++[v]) H):∃m',m'<n-i/\CA n Pv (i+1) m' (acc++[v]) H:=⟨n-(i+1),by omega,rfl,hi,by simp;omega,h⟩
theorem CA.skip {n:Nat}{Pv:Nat->List V->Hp->Prop}{i:Nat}{acc:List V}{H:Hp} (hi:i<n) (hl:acc.length<=i) (h:Pv (i+1) acc H):∃m',m'<n-i/\CA n Pv (i+1) m' acc H:=⟨n-(i+1),by omega,rfl,hi,by omega,h⟩
theorem ZcE {J:It}{n:Nat}{H1:Hp}{g:TG}{tt:TT}{te:TE}{σ0:St}{Q:VK} (Pv:Nat->List V->Hp->Prop) (hn:n<sizeLine) (h0:Pv 0 [] H1) (hgo:∀i acc H,Pv i acc H->i<n->J.go i H) (hstop:∀acc H,Pv n acc H->J.stop n H)
  (hb:∀i x acc H H',i<n->acc.length<=i->Pv i acc H->J.yld i H x H'->g x σ0 H' fun σ2 H2=>tt σ2 H2 λb H3=>if b=true then te σ2 H3 λv H4=>∃m',m'<n-i/\CA n Pv (i+1) m' (acc++[v]) H4 else ∃m',m'<n-i/\CA n Pv (i+1) m' acc H3)
  (hk:∀l acc H',Pv n acc H'->acc.length<=n->H' l=none->Q (.ref l) (upd H' l (.lst acc))):ZhU J g tt te σ0 Q H1:=by
 refine⟨CA n Pv,⟨n,rfl,Yp _,Yd _,h0⟩,?_⟩
 rintro i m acc H ⟨rfl,hi,hl,p⟩
 by_cases h:i<n
 ·exact .inr ⟨hgo i acc H p h,by omega,λx H' y=>hb i x acc H H' h hl p y⟩
 ·have e:i=n:=by omega
  subst e
  exact .inl ⟨hstop acc H p,by omega,λq hq=>hk q acc H p hl hq⟩
section
variable {X:Cx}
theorem Vals.takeN:∀{xs:List V}{us:List Value} (k:Nat),Vals xs us->Vals (xs.take k) (us.take k)
 |_,_,0,_=>by simp;exact .nil
 |_,_,_+1,.nil=>.nil
 |_,_,k+1,.cons r h=>.cons r (Vals.takeN k h)
noncomputable def rIndex (K:Frag):V->List V->Hp->VK->Prop:=λx vs H Q=>∃(l:Addr) (ns:List Int) (k:Int),x=.ref l/\vs=[.int k]/\SqL K H l (ns.map V.int)/\ns.length<=100000/\k∈ns/\Q (.int (ns.idxOf k:Nat)) H
theorem ZlD {K:Frag} (hK:X.K=K):MtM X "list.index" (rIndex K):=by
 subst hK
 intro pins s σ H x vs v us Q I rx rv h
 obtain⟨l,ns,k,rfl,rfl,hH,hz,hk,q⟩:=h
 cases rx
 obtain⟨u,rfl,ru⟩:=rv.one
 obtain⟨t,rfl⟩:=ru
 obtain⟨its,r,pl,_⟩:=I.list hH
 have hi:IntsAre its ns:=intsAre_of r
 have hlen:=r.length
 rw[Yh]at hlen
 obtain⟨⟨cls,dd,data,sl⟩,ho,hc,n,hd⟩:=pl.isList
 simp only at hc hd
 subst hc hd
 have hj:ns.idxOf k<ns.length:=List.idxOf_lt_length_iff.mpr hk
 refine call_meets F.slot_list_index ⟨_,ho,rfl⟩ F.entry_list_index (F.args_list_index_2 _ _)
  (SeqAt.list_indexAt l its.toArray n dd sl (.int k t) (isInt k) (ns.idxOf k) (by rw[Yv];omega) (by omega) ?_ ?_) ⟨ho,λy hy=>(eq_isInt k t hi y (by simpa using hy)).at _ _,⟨.int _,H,I.tok _,⟨_,rfl⟩,q⟩⟩
 ·show isInt k its[ns.idxOf k]=true
  rw[isInt_at k hi _ (by omega) hj]
  simpa using List.getElem_idxOf hj
 ·intro j hjs hlt
  show isInt k its[j]=false
  rw[isInt_at k hi j (by simpa using hjs) (by omega)]
  exact ne_of_lt_idxOf hlt _
end
noncomputable def Zdi (H:Hp) (p:Addr):Prop:=∃x:Int,H p=some (.lst [.int x])/\0<=x
theorem cp60:Zj4 10 60:=by unfold Zj4;decide
theorem qm1:IntMulOk (10 ^ Int.toNat 60) (10 ^ Int.toNat 60):=Zhm (by decide +kernel) (by decide +kernel)
theorem qm2:IntMulOk (10 ^ Int.toNat 60*10 ^ Int.toNat 60) (10 ^ Int.toNat 60):=Zhm (by decide +kernel) (by decide +kernel)
theorem qm3:IntMulOk (10 ^ Int.toNat 60*10 ^ Int.toNat 60*10 ^ Int.toNat 60) (10 ^ Int.toNat 60):=Zhm (by decide +kernel) (by decide +kernel)
theorem qm4:(0:Int)<10 ^ Int.toNat 60*10 ^ Int.toNat 60*10 ^ Int.toNat 60*10 ^ Int.toNat 60:=by decide +kernel
end L2
namespace L2
noncomputable def ZD (f:Nat->Int) (p q:Nat):Prop:=q<p/\f q<=f p/\∀r,q<r->r<p->f p<f r
noncomputable def ZE (f:Nat->Int) (n p r:Nat):Prop:=p<r/\r<n/\f r<f p/\∀s,p<s->s<r->f p<=f s
noncomputable def ZaJ (f:Nat->Int) (p:Nat):Prop:=∀q,q<p->f p<f q
noncomputable def Zaw (f:Nat->Int) (n p:Nat):Prop:=∀r,p<r->r<n->f p<=f r
noncomputable def Zy (f:Nat->Int) (n p:Nat) (e:Int):Prop :=
 (ZaJ f p/\Zaw f n p/\e=-1)\/(∃q,ZD f p q/\Zaw f n p/\e=q)\/(∃r,ZaJ f p/\ZE f n p r/\e=r) \/
 ∃q r,ZD f p q/\ZE f n p r/\e=if f q<=f r then (r:Int)else q
theorem ZhZ {P:Nat->Prop} [DecidablePred P] (i:Nat):∀d r,r+d=i->P r->∃t,r<=t/\t<=i/\P t/\∀s,t<s->s<=i->¬ P s:=by
 intro d
 induction d with
 |zero=>intro r e h;exact⟨r,Yd _,by omega,h,λs h1 h2=>by omega⟩
 |succ d ih =>
  intro r e h
  by_cases hx:∃t,r<t/\t<=i/\P t
  ·obtain⟨t,h1,h2,h3⟩:=hx
   -- step to r+1 by cases
   by_cases h4:P (r+1)
   ·obtain⟨u,u1,u2,u3,u4⟩:=ih (r+1) (by omega) h4
    exact⟨u,by omega,u2,u3,u4⟩
   ·-- go on from the next one
    have gen:∀k t,t+k=i->r<t->P t->∃u,r<=u/\u<=i/\P u/\∀s,u<s->s<=i->¬ P s:=by
     intro k
     induction k with
     |zero=>intro t e h1 h3;exact⟨t,by omega,by omega,h3,λs h1 h2=>by omega⟩
     |succ k ihk =>
      intro t e h1 h3
      by_cases hy:∃s,t<s/\s<=i/\P s
      ·-- the last one of the rest
       have key:∀m,m<=i->(∃s,t<s/\s<=m/\P s)->∃u,t<u/\u<=m/\P u/\∀s,u<s->s<=m->¬ P s:=by
        intro m
        induction m with
        |zero=>rintro _ ⟨s,h5,h6,_⟩;omega
        |succ m ihm =>
         rintro hm ⟨s,h5,h6,h7⟩
         by_cases hp:P (m+1)
         ·exact⟨m+1,by omega,Yd _,hp,λs h1 h2=>by omega⟩
         ·have hs:s<=m:=by
           rcases Nat.lt_or_ge m s with z|z
           ·have:s=m+1:=by omega
            rw[this]at h7;exact absurd h7 hp
           ·exact z
          obtain⟨u,u1,u2,u3,u4⟩:=ihm (by omega) ⟨s,h5,hs,h7⟩
          refine⟨u,u1,by omega,u3,λs' h1 h2=>?_⟩
          by_cases e:s'=m+1
          ·rw[e];exact hp
          ·exact u4 s' h1 (by omega)
       obtain⟨u,u1,u2,u3,u4⟩:=key i (Yd _) hy
       exact⟨u,by omega,u2,u3,u4⟩
      ·exact⟨t,by omega,by omega,h3,λs h1 h2 h5=>hy ⟨s,h1,h2,h5⟩⟩
    exact gen (i-t) t (by omega) h1 h3
  ·exact⟨r,Yd _,by omega,h,λs h1 h2 h3=>hx ⟨s,h1,h2,h3⟩⟩
theorem ZiV {P:Nat->Prop} [DecidablePred P] {n r:Nat} (hr:r<n) (h:P r):∃t,r<=t/\t<n/\P t/\∀s,t<s->s<n->¬ P s:=by
 obtain⟨t,h1,h2,h3,h4⟩:=ZhZ (P:=P) (n-1) (n-1-r) r (by omega) h
 exact⟨t,h1,by omega,h3,λs a b=>h4 s a (by omega)⟩
noncomputable def Zbk (f:Nat->Int) (i:Nat) (sp:List Nat):Prop:=sp.Pairwise (· < ·)/\∀q,q∈sp↔q<i/\∀r,q<r->r<i->f q<=f r
theorem Zb7 (f:Nat->Int) (p:Nat):ZaJ f p\/∃q,ZD f p q:=by
 by_cases h:∃q,q<p/\f q<=f p
 ·obtain⟨q,h1,h2⟩:=h
  obtain⟨t,_,t2,t3,t4⟩:=ZiV (P:=λq=>f q<=f p) h1 h2
  exact .inr ⟨t,t2,t3,λr a b=>by have:=t4 r a b;omega⟩
 ·exact .inl λq hq=>by
   have:¬ (f q<=f p):=λz=>h ⟨q,hq,z⟩
   omega
theorem Zkh {f:Nat->Int}{i p q:Nat} (hp:p<i) (ho:∀r,p<r->r<i->f p<=f r) (h:ZD f p q):(∀r,q<r->r<i->f q<=f r)/\∀s,q<s->s<p->¬ ∀r,s<r->r<i->f s<=f r:=by
 obtain⟨h1,h2,h3⟩:=h
 refine⟨λr a b=>?_,λs a b z=>?_⟩
 ·rcases Nat.lt_trichotomy r p with c|c|c
  ·have:=h3 r a c;omega
  ·rw[c];exact h2
  ·have:=ho r c b;omega
 ·have:=z p b hp
  have:=h3 s a b
  omega
theorem Zbl {f:Nat->Int}{i:Nat}{A B:List Nat} (hs:Zbk f i (A++B)) (hA:∀q∈A,f q<=f i) (hB:∀q∈B,f i<f q) :
  Zbk f (i+1) (A++[i])/\Zy f (i+1) i (match A.getLast? with|some q=>(q:Int)|none=>-1)/\∀p e,p<i->Zy f i p e->Zy f (i+1) p (if B.head?=some p then (i:Int)else e):=by
 obtain⟨hso,hm⟩:=hs
 have hAB:=List.pairwise_append.mp hso
 have noNx:Zaw f (i+1) i:=λr a b=>by omega
 refine⟨⟨?_,λq=>?_⟩,?_,λp e hp he=>?_⟩
 ·refine List.pairwise_append.mpr ⟨hAB.1,List.pairwise_singleton _ _,λa ha b hb=>?_⟩
  have:b=i:=by simpa using hb
  rw[this]
  exact((hm a).mp (YN _ ha)).1
 ·rw[Ys,YW]
  constructor
  ·rintro(h|h)
   ·obtain⟨h1,h2⟩:=(hm q).mp (YN _ h)
    refine⟨by omega,λr a b=>?_⟩
    by_cases e:r=i
    ·rw[e];exact hA q h
    ·exact h2 r a (by omega)
   ·subst h;exact⟨by omega,λr a b=>by omega⟩
  ·rintro⟨h1,h2⟩
   by_cases e:q=i
   ·exact .inr e
   ·have hq:q∈A++B:=(hm q).mpr ⟨by omega,λr a b=>h2 r a (by omega)⟩
    rcases Ys.mp hq with h|h
    ·exact .inl h
    ·have:=hB q h
     have:=h2 i (by omega) (by omega)
     omega
 ·-- the elder of i
  rcases Zb7 f i with h|⟨q,h⟩
  ·have hA0:A=[]:=by
    cases A with
    |nil=>rfl
    |cons a r =>
     have h1:=((hm a).mp (by simp)).1
     have:=hA a (by simp)
     have:=h a h1
     omega
   rw[hA0]
   exact .inl ⟨h,noNx,rfl⟩
  ·have ho:∀r,q<r->r<i->f q<=f r:=λr a b=>by have:=h.2.2 r a b;have:=h.2.1;omega
   have hqA:q∈A:=by
    rcases Ys.mp ((hm q).mpr ⟨h.1,ho⟩)with z|z
    ·exact z
    ·have:=hB q z;have:=h.2.1;omega
   have hlast:A.getLast?=some q:=by
    have hne:A≠[]:=λz=>by rw[z]at hqA;cases hqA
    rw[List.getLast?_eq_some_getLast hne]
    congr 1
    have hl:A.getLast hne∈A:=List.getLast_mem hne
    -- q<=last,and last is not past q
    by_cases e:A.getLast hne=q
    ·exact e
    ·exfalso
     have hlt:q<A.getLast hne:=by
      have hd:=List.dropLast_concat_getLast hne
      have hq2:q∈A.dropLast:=by
       rw[<-hd]at hqA
       rcases Ys.mp hqA with z|z
       ·exact z
       ·exact absurd (by simpa using z) (Ne.symm e)
      have hp2:=hAB.1
      rw[<-hd]at hp2
      exact(List.pairwise_append.mp hp2).2.2 q hq2 _ (by simp)
     have h1:=((hm (A.getLast hne)).mp (YN _ hl)).1
     have:=h.2.2 _ hlt h1
     have:=hA _ hl
     omega
   rw[hlast]
   exact .inr (.inl ⟨q,h,noNx,rfl⟩)
 ·-- the elder of an earlier place
  have nxt:∀r,ZE f i p r->ZE f (i+1) p r:=λr ⟨a,b,c,d⟩=>⟨a,by omega,c,d⟩
  by_cases hop:Zaw f i p
  ·have hmem:p∈A++B:=(hm p).mpr ⟨hp,hop⟩
   by_cases hlt:f i<f p
   ·have hnx:ZE f (i+1) p i:=⟨hp,by omega,hlt,λs a b=>hop s a b⟩
    have hpB:p∈B:=by
     rcases Ys.mp hmem with z|z
     ·have:=hA p z;omega
     ·exact z
    obtain⟨b0,Br,rfl⟩:∃b0 Br,B=b0::Br:=by
     cases B with
     |nil=>cases hpB
     |cons b0 Br=>exact⟨b0,Br,rfl⟩
    have hhead:(b0::Br).head?=some b0:=rfl
    rw[hhead]
    rcases Zb7 f p with hn|⟨q,hq⟩
    ·-- nothing ahead: p is the first of all
     have e0:b0=p:=by
      by_cases z:b0=p
      ·exact z
      ·exfalso
       have hpr:p∈Br:=by
        rcases Yj.mp hpB with y|y
        ·exact absurd y.symm z
        ·exact y
       have hlt2:b0<p:=(YZ.mp hAB.2.1).1 p hpr
       have:=((hm b0).mp (by simp)).2 p hlt2 hp
       have:=hn b0 hlt2
       omega
     rw[Yc (by rw[e0])]
     exact .inr (.inr (.inl ⟨i,hn,hnx,rfl⟩))
    ·obtain⟨hq1,hq2⟩:=Zkh hp hop hq
     have hqm:q∈A++b0::Br:=(hm q).mpr ⟨Nat.lt_trans hq.1 hp,hq1⟩
     by_cases hqi:f q<=f i
     ·-- q is kept: p is the first of B
      have e0:b0=p:=by
       by_cases z:b0=p
       ·exact z
       ·exfalso
        have hpr:p∈Br:=by
         rcases Yj.mp hpB with y|y
         ·exact absurd y.symm z
         ·exact y
        have hlt2:b0<p:=(YZ.mp hAB.2.1).1 p hpr
        have hb0:=(hm b0).mp (by simp)
        have hqA:q∈A:=by
         rcases Ys.mp hqm with y|y
         ·exact y
         ·have:=hB q y;omega
        have hqb:q<b0:=hAB.2.2 q hqA b0 (by simp)
        exact hq2 b0 hqb hlt2 hb0.2
      rw[Yc (by rw[e0])]
      refine .inr (.inr (.inr ⟨q,i,hq,hnx,?_⟩))
      rw[Yc hqi]
     ·-- q goes,too: the elder stays
      have hqB:q∈b0::Br:=by
       rcases Ys.mp hqm with y|y
       ·exact absurd (hA q y) hqi
       ·exact y
      have hne:b0≠p:=by
       intro z
       subst z
       rcases Yj.mp hqB with y|y
       ·have:=hq.1;omega
       ·have:=(YZ.mp hAB.2.1).1 q y
        have:=hq.1;omega
      rw[Yb (by intro z;exact hne (YA z))]
      have ee:e=q:=by
       rcases he with⟨h1,_,_⟩|⟨q',h1,_,h3⟩|⟨r,h1,_,_⟩|⟨q',r,_,h2,_⟩
       ·have:=h1 q hq.1;have:=hq.2.1;omega
       ·have:q'=q:=by
         rcases Nat.lt_trichotomy q' q with y|y|y
         ·have:=h1.2.2 q y hq.1;have:=hq.2.1;omega
         ·exact y
         ·have:=hq.2.2 q' y h1.1;have:=h1.2.1;omega
        rw[h3,this]
       ·have:=h1 q hq.1;have:=hq.2.1;omega
       ·have:=hop r h2.1 h2.2.1;have:=h2.2.2.1;omega
      refine .inr (.inr (.inr ⟨q,i,hq,hnx,?_⟩))
      rw[Yb hqi,ee]
   ·-- still open: not of B
    have hnn:Zaw f (i+1) p:=λr a b=>by
     by_cases z:r=i
     ·rw[z];omega
     ·exact hop r a (by omega)
    have hne:B.head?≠some p:=λz=>by
     have:p∈B:=List.mem_of_head? z
     have:=hB p this
     omega
    rw[Yb hne]
    rcases he with⟨h1,_,h3⟩|⟨q,h1,_,h3⟩|⟨r,_,h2,_⟩|⟨q,r,_,h2,_⟩
    ·exact .inl ⟨h1,hnn,h3⟩
    ·exact .inr (.inl ⟨q,h1,hnn,h3⟩)
    ·have:=hop r h2.1 h2.2.1;have:=h2.2.2.1;omega
    ·have:=hop r h2.1 h2.2.1;have:=h2.2.2.1;omega
  ·-- shut already
   have hne:B.head?≠some p:=λz=>hop ((hm p).mp (Yo _ (List.mem_of_head? z))).2
   rw[Yb hne]
   rcases he with⟨_,h2,_⟩|⟨q,_,h2,_⟩|⟨r,h1,h2,h3⟩|⟨q,r,h1,h2,h3⟩
   ·exact absurd h2 hop
   ·exact absurd h2 hop
   ·exact .inr (.inr (.inl ⟨r,h1,nxt r h2,h3⟩))
   ·exact .inr (.inr (.inr ⟨q,r,h1,nxt r h2,h3⟩))
end L2
namespace L2
open PySem PySem.Spec PyProof.Rows PySem.W
theorem Zfq {α β:Type}{f g:α->Option β}:∀{l:List α},(∀x∈l,f x=g x)->l.filterMap f=l.filterMap g
 |[],_=>rfl
 |x::r,h=>by rw[List.filterMap_cons,List.filterMap_cons,h x (YM ..),Zfq λy hy=>h y (YK _ hy)]
theorem Zki (its:List Value) (k:Nat) (hk:k<=its.length) (start:Nat):(its.zipIdx start).filterMap (λxk=>if (decide (((start+k:Nat):Int)<=(xk.2:Int))&&decide ((xk.2:Int)<((start+its.length:Nat):Int))&&(((xk.2:Int)-((start+k:Nat):Int)) % 1==0))=true then none else some xk.1)=its.take k:=by
 induction its generalizing k start with
 |nil=>simp
 |cons x r ih =>
  rw[List.zipIdx_cons,List.filterMap_cons]
  cases k with
  |zero =>
   have h1:(decide (((start+0:Nat):Int)<=(start:Int))&&decide ((start:Int)<((start+(x::r).length:Nat):Int))&&(((start:Int)-((start+0:Nat):Int)) % 1==0))=true:=by
    simp;omega
   simp only[h1,if_true]
   have:=ih 0 (by omega) (start+1)
   rw[List.take_zero]at this⊢
   rw[<-this]
   refine Zfq λxk hxk=>?_
   have hm:=List.mem_zipIdx hxk
   have e1:(decide (((start+0:Nat):Int)<=(xk.2:Int)))=(decide (((start+1+0:Nat):Int)<=(xk.2:Int))):=by
    rw[decide_eq_decide];omega
   have e2:((start+(x::r).length:Nat):Int)=((start+1+r.length:Nat):Int):=by simp;omega
   have e3:(((xk.2:Int)-((start+0:Nat):Int)) % 1==0)=(((xk.2:Int)-((start+1+0:Nat):Int)) % 1==0):=by simp[Int.emod_one]
   rw[e1,e2,e3]
  |succ k =>
   have h1:(decide (((start+(k+1):Nat):Int)<=(start:Int))&&decide ((start:Int)<((start+(x::r).length:Nat):Int))&&(((start:Int)-((start+(k+1):Nat):Int)) % 1==0))=false:=by
    have:decide (((start+(k+1):Nat):Int)<=(start:Int))=false:=YQ (by omega)
    rw[this];rfl
   simp only[h1,Bool.false_eq_true,if_false]
   rw[List.take_succ_cons]
   congr 1
   have:=ih k (by simpa using hk) (start+1)
   rw[<-this]
   refine Zfq λxk hxk=>?_
   have e1:((start+(k+1):Nat):Int)=((start+1+k:Nat):Int):=by omega
   have e2:((start+(x::r).length:Nat):Int)=((start+1+r.length:Nat):Int):=by simp;omega
   rw[e1,e2]
section
variable {X:Cx}{e st:Expr}{te ts:TE}{pos pos1 p2:Pos}
noncomputable def tDelT (te ts:TE):TS:=λD σ H=>te σ H λx H1=>ts σ H1 λz H2=>∃(l:Addr) (xs:List V) (k:Nat),x=.ref l/\z=.int k/\H2 l=some (.lst xs)/\k<=xs.length/\D.nx σ (upd H2 l (.lst (xs.take k)))
theorem ZiW (he:PE X e te) (hs:PE X st ts):PS X (.Delete [.Subscript e (.Slice (some st) none none p2) pos1] pos) (tDelT te ts):=by
 intro pins s σ H D I h
 refine wpAny_Delete (wpAny_deleteEach_cons ?_)
 show wpAny _ _ (eval e X.env >>= λov=>holding [ov] (eval (.Slice (some st) none none p2) X.env) >>= λiv=>(do standAt pos1;holding [ov,iv] (delItem ov iv);release [ov,iv] [])) _ _ _
 refine Ya (thn (he pins s σ H _ I h) λv s1 ⟨x,H1,I1,r1,q1⟩=>?_)
 refine Ya (YH ?_)
 refine wpAny_Slice ?_
 rw[evalPart_some]
 refine thn (hs pins s1 σ H1 _ I1 q1) λvs s2 ⟨z,H2,I2,r2,l,xs,k,e1,e2,hx,hk,q⟩=>?_
 subst e1 e2
 obtain⟨tk,rfl⟩:=r2
 cases r1
 rw[evalPart_none]
 refine Ye ?_
 refine Ye ?_
 have I4:Inv X pins σ H2 {s2 with heap:=s2.heap.push {cls:=.type "slice",data:=.fields #[.int k tk,.none,.none]}}:=I2.kept (t':=s2.toks) λb ob q=>Ym _ q
 have hsl:({s2 with heap:=s2.heap.push {cls:=.type "slice",data:=.fields #[.int k tk,.none,.none]}}:Shared).heap.get? s2.heap.objs.size=some {cls:=.type "slice",data:=.fields #[.int k tk,.none,.none]}:=Yy _ rfl
 obtain⟨z,its,n,r,hlen,hob⟩:=I4.lstM hx
 generalize ({s2 with heap:=s2.heap.push {cls:=.type "slice",data:=.fields #[.int k tk,.none,.none]}}:Shared)=s4 at I4 hsl hob⊢
 have hT:s4.TypeIs (.ref l) "list":=⟨_,hob,rfl⟩
 have hTs:s4.TypeIs (.ref s2.heap.objs.size) "slice":=⟨_,hsl,rfl⟩
 refine Ya (wpAny_standAt (Ya (YH ?_)))
 refine wpAny_delItem_slot hT (by decide) F.slot_list_delitem (wpAny_call_entry F.slot_list_delitem hT F.entry_list_delitem ?_ (F.args_list_delitem_2 _ _))
 show wpAny _ _ (Builtin.List.listSubscript? (.ref s2.heap.objs.size) >>= _) _ _ s4
 refine Ya ?_;unfold Builtin.List.listSubscript?;refine Ya (wpAny_specialOf hTs slice_no_index ?_)
 simp only[Option.isNone_none,if_true];refine Ye ?_
 show wpAny _ _ (typeOf (.ref s2.heap.objs.size) >>= _) _ _ s4
 refine Ya (wpAny_typeOf hTs ?_);rw[Yb (by decide),listSliceParts_eq]
 refine Ya (Ya (wpAny_field hsl rfl (x:=.none) rfl (Ya (wpAny_listPart (k:=none) .none ?_))));rw[Yb (show ¬ ((rawPart none==rawInt 0)=true)from Yx)]
 refine Ya (wpAny_field hsl rfl (x:=.int k tk) rfl (Ya (wpAny_listPart (.int (k:Int) tk) ?_)))
 refine Ya (wpAny_field hsl rfl (x:=.none) rfl (Ya (wpAny_listPart (k:=none) .none (Ye ?_))))
 refine Ya (m:=Builtin.List.listItems (.ref l)) ?_;unfold Builtin.List.listItems
 refine Ya (wpAny_seqItems hob rfl (Ye ?_));refine Ya (wpAny_of_eq (sliceIndices_raw (some (k:Int)) none none its.toArray.size (by simp)) (Ya (wpAny_rule ?_)))
 have hb:sliceBounds (some (k:Int)) none none its.toArray.size=((k:Int),((its.length:Nat):Int),1):=by
  unfold sliceBounds
  simp
  omega
 rw[hb]
 have hf:∀f:Array Value->Array Value,(∀ys:Array Value,f ys=(ys.toList.zipIdx.filterMap λxk=>if (decide ((k:Int)<=(xk.2:Int))&&decide ((xk.2:Int)<((its.length:Nat):Int))&&(((xk.2:Int)-(k:Int)) % 1==0))=true then none else some xk.1).toArray)->f its.toArray=(its.take k).toArray:=λf h=>by
  rw[h]
  congr 1
  have:=Zki its k (by omega) 0
  simpa using this
 refine Ya (m:=updateSeq l _) ?_
 refine wpAny_updateSeq (n:=n) hob rfl ?_ (by rw[Yv];omega) ?_
 ·refine Ya (wpAny_letGo (Ye ⟨_,rfl,?_⟩))
  refine wpAny_release (wpAny_deleteEach_nil ⟨σ,_,I4.lset hx hob (hf _ λys=>rfl) (r.takeN k) ?_,q⟩)
  rw[Y4];omega
 ·rw[Yv]
  refine Yn (List.length_filterMap_le _ _) ?_
  rw[List.length_zipIdx]
  show its.length<=sizeLine+1
  omega
end
theorem ZD.unique {f:Nat->Int}{p q q':Nat} (h:ZD f p q) (k:ZD f p q'):q=q':=by
 rcases Nat.lt_trichotomy q q' with z|z|z
 ·have:=h.2.2 q' z k.1;have:=k.2.1;omega
 ·exact z
 ·have:=k.2.2 q z h.1;have:=h.2.1;omega
theorem ZE.unique {f:Nat->Int}{n p r r':Nat} (h:ZE f n p r) (k:ZE f n p r'):r=r':=by
 rcases Nat.lt_trichotomy r r' with z|z|z
 ·have:=k.2.2.2 r h.1 z;have:=h.2.2.1;omega
 ·exact z
 ·have:=h.2.2.2 r' k.1 z;have:=k.2.2.1;omega
theorem ZD.no {f:Nat->Int}{p q:Nat} (h:ZD f p q) (k:ZaJ f p):False:=by have:=k q h.1;have:=h.2.1;omega
theorem ZE.no {f:Nat->Int}{n p r:Nat} (h:ZE f n p r) (k:Zaw f n p):False:=by have:=k r h.1 h.2.1;have:=h.2.2.1;omega
theorem Zy.unique {f:Nat->Int}{n p:Nat}{e e':Int} (h:Zy f n p e) (k:Zy f n p e'):e=e':=by
 rcases h with⟨h1,h2,h3⟩|⟨q,h1,h2,h3⟩|⟨r,h1,h2,h3⟩|⟨q,r,h1,h2,h3⟩ <;>
 rcases k with⟨k1,k2,k3⟩|⟨q',k1,k2,k3⟩|⟨r',k1,k2,k3⟩|⟨q',r',k1,k2,k3⟩
 ·rw[h3,k3]
 ·exact(k1.no h1).elim
 ·exact(k2.no h2).elim
 ·exact(k1.no h1).elim
 ·exact(h1.no k1).elim
 ·rw[h3,k3,h1.unique k1]
 ·exact(h1.no k1).elim
 ·exact(k2.no h2).elim
 ·exact(h2.no k2).elim
 ·exact(k1.no h1).elim
 ·rw[h3,k3,h2.unique k2]
 ·exact(k1.no h1).elim
 ·exact(h1.no k1).elim
 ·exact(h2.no k2).elim
 ·exact(h1.no k1).elim
 ·rw[h3,k3,h1.unique k1,h2.unique k2]
noncomputable def Zp (ns:List Int) (es:List Int):Prop:=es.length=ns.length/\∀p,p<ns.length->Zy (nth ns) ns.length p (es.getD p 0)
theorem Zp.unique {ns es es':List Int} (h:Zp ns es) (k:Zp ns es'):es=es':=by
 refine List.ext_getElem (by rw[h.1,k.1]) λj h1 h2=>?_
 have hj:j<ns.length:=by rw[<-h.1];exact h1
 have:=(h.2 j hj).unique (k.2 j hj)
 simpa[Yg,h1,h2]using this
theorem Zh0 {f:Nat->Int}{n p:Nat} (hp:p<n):Zy f n p
  (match ((List.range p).filter λq=>decide (f q<=f p)).getLast?,((List.range (n-(p+1))).filter λj=>decide (f (p+1+j)<f p)).head? with
   |none,none=>-1
   |none,some j=>((p+1+j:Nat):Int)
   |some q,none=>q
   |some q,some j=>if f q<=f (p+1+j)then ((p+1+j:Nat):Int)else q):=by
 have hA:(((List.range p).filter λq=>decide (f q<=f p)).getLast?=none/\ZaJ f p)\/∃q,((List.range p).filter λq=>decide (f q<=f p)).getLast?=some q/\ZD f p q:=by
  induction p with
  |zero=>exact .inl ⟨rfl,λq hq=>by omega⟩
  |succ p _ =>
   generalize p+1=P
   have key:∀m,m<=P->(((List.range m).filter λq=>decide (f q<=f P)).getLast?=none/\∀q,q<m->f P<f q)\/∃q,((List.range m).filter λq=>decide (f q<=f P)).getLast?=some q/\q<m/\f q<=f P/\∀r,q<r->r<m->f P<f r:=by
    intro m
    induction m with
    |zero=>intro _;exact .inl ⟨rfl,λq hq=>by omega⟩
    |succ m ih =>
     intro hm
     rw[YR,List.filter_append]
     by_cases hle:f m<=f P
     ·refine .inr ⟨m,?_,by omega,hle,λr r1 r2=>by omega⟩
      simp[hle]
     ·have e:List.filter (λq=>decide (f q<=f P)) [m]=[]:=by simp[hle]
      rw[e,List.append_nil]
      rcases ih (by omega)with⟨i1,i2⟩|⟨q,i1,i2,i3,i4⟩
      ·refine .inl ⟨i1,λq hq=>?_⟩
       by_cases z:q=m
       ·rw[z];omega
       ·exact i2 q (by omega)
      ·refine .inr ⟨q,i1,by omega,i3,λr r1 r2=>?_⟩
       by_cases z:r=m
       ·rw[z];omega
       ·exact i4 r r1 (by omega)
   rcases key P (Yd _)with⟨i1,i2⟩|⟨q,i1,i2,i3,i4⟩
   ·exact .inl ⟨i1,i2⟩
   ·exact .inr ⟨q,i1,i2,i3,i4⟩
 have hB:(((List.range (n-(p+1))).filter λj=>decide (f (p+1+j)<f p)).head?=none/\Zaw f n p)\/∃j,((List.range (n-(p+1))).filter λj=>decide (f (p+1+j)<f p)).head?=some j/\ZE f n p (p+1+j):=by
  have key:∀m,(((List.range m).filter λj=>decide (f (p+1+j)<f p)).head?=none/\∀j,j<m->f p<=f (p+1+j))\/∃j,((List.range m).filter λj=>decide (f (p+1+j)<f p)).head?=some j/\j<m/\f (p+1+j)<f p/\∀i,i<j->f p<=f (p+1+i):=by
   intro m
   induction m with
   |zero=>exact .inl ⟨rfl,λq hq=>by omega⟩
   |succ m ih =>
    rw[YR,List.filter_append]
    rcases ih with⟨i1,i2⟩|⟨j,i1,i2,i3,i4⟩
    ·have e0:List.filter (λj=>decide (f (p+1+j)<f p)) (List.range m)=[]:=List.head?_eq_none_iff.mp i1
     rw[e0,List.nil_append]
     by_cases hlt:f (p+1+m)<f p
     ·refine .inr ⟨m,by simp[hlt],by omega,hlt,λi hi=>i2 i hi⟩
     ·refine .inl ⟨by simp[hlt],λj hj=>?_⟩
      by_cases z:j=m
      ·rw[z];omega
      ·exact i2 j (by omega)
    ·refine .inr ⟨j,?_,by omega,i3,i4⟩
     rw[List.head?_append,i1];rfl
  rcases key (n-(p+1))with⟨i1,i2⟩|⟨j,i1,i2,i3,i4⟩
  ·refine .inl ⟨i1,λr r1 r2=>?_⟩
   have:=i2 (r-(p+1)) (by omega)
   have e:p+1+(r-(p+1))=r:=by omega
   rw[e]at this;exact this
  ·refine .inr ⟨j,i1,by omega,by omega,i3,λs s1 s2=>?_⟩
   have:=i4 (s-(p+1)) (by omega)
   have e:p+1+(s-(p+1))=s:=by omega
   rw[e]at this;exact this
 rcases hA with⟨a1,a2⟩|⟨q,a1,a2⟩<;>rcases hB with⟨b1,b2⟩|⟨j,b1,b2⟩<;>rw[a1,b1]
 ·exact .inl ⟨a2,b2,rfl⟩
 ·exact .inr (.inr (.inl ⟨_,a2,b2,rfl⟩))
 ·exact .inr (.inl ⟨_,a2,b2,rfl⟩)
 ·exact .inr (.inr (.inr ⟨_,_,a2,b2,rfl⟩))
end L2
namespace L2
noncomputable def Over (f:Nat->Int) (o p:Nat):Prop:=(o<p/\∀r,o<r->r<=p->f o<=f r)\/(p<o/\∀r,p<=r->r<o->f o<f r)
theorem Over.irrefl {f:Nat->Int}{p:Nat}:¬ Over f p p:=by rintro(⟨h,_⟩|⟨h,_⟩)<;>omega
theorem Over.trans {f:Nat->Int}{o e p:Nat} (h:Over f o e) (k:Over f e p):Over f o p:=by
 rcases h with⟨h1,h2⟩|⟨h1,h2⟩<;>rcases k with⟨k1,k2⟩|⟨k1,k2⟩
 ·refine .inl ⟨by omega,λr r1 r2=>?_⟩
  by_cases z:r<=e
  ·exact h2 r r1 z
  ·have:=k2 r (by omega) r2;have:=h2 e h1 (Yd _);omega
 ·have he:=h2 e h1 (Yd _)
  rcases Nat.lt_trichotomy o p with z|z|z
  ·exact .inl ⟨z,λr r1 r2=>h2 r r1 (by omega)⟩
  ·have:=k2 p (Yd _) k1;subst z;omega
  ·exact .inr ⟨z,λr r1 r2=>by have:=k2 r r1 (by omega);omega⟩
 ·have he:=h2 e (Yd _) h1
  rcases Nat.lt_trichotomy o p with z|z|z
  ·exact .inl ⟨z,λr r1 r2=>by have:=k2 r (by omega) r2;omega⟩
  ·have:=k2 p k1 (Yd _);subst z;omega
  ·exact .inr ⟨z,λr r1 r2=>h2 r (by omega) r2⟩
 ·refine .inr ⟨by omega,λr r1 r2=>?_⟩
  by_cases z:r<e
  ·have:=k2 r r1 z;have:=h2 e (Yd _) h1;omega
  ·exact h2 r (by omega) r2
theorem Zdv {f:Nat->Int}{n p:Nat}{e:Int} (hp:p<n) (h:Zy f n p e):e=-1\/∃q:Nat,e=q/\q<n/\Over f q p:=by
 have pv:∀q,ZD f p q->Over f q p:=λq h=>.inl ⟨h.1,λr r1 r2=>by
  by_cases z:r=p
  ·rw[z];exact h.2.1
  ·have:=h.2.2 r r1 (by omega);have:=h.2.1;omega⟩
 have nx:∀q,ZE f n p q->Over f q p:=λq h=>.inr ⟨h.1,λr r1 r2=>by
  by_cases z:r=p
  ·rw[z];exact h.2.2.1
  ·have:=h.2.2.2 r (by omega) r2;have:=h.2.2.1;omega⟩
 rcases h with⟨_,_,h⟩|⟨q,h1,_,h⟩|⟨r,_,h1,h⟩|⟨q,r,h1,h2,h⟩
 ·exact .inl h
 ·exact .inr ⟨q,h,by have:=h1.1;omega,pv q h1⟩
 ·exact .inr ⟨r,h,h1.2.1,nx r h1⟩
 ·by_cases z:f q<=f r
  ·rw[Yc z]at h;exact .inr ⟨r,h,h2.2.1,nx r h2⟩
  ·rw[Yb z]at h;exact .inr ⟨q,h,by have:=h1.1;omega,pv q h1⟩
theorem ZgF {f:Nat->Int}{n p o:Nat}{e:Int} (hp:p<n) (ho:o<n) (h:Zy f n p e) (hO:Over f o p):∃q:Nat,e=q/\q<n/\(o=q\/Over f o q):=by
 rcases hO with⟨o1,o2⟩|⟨o1,o2⟩
 ·have op:=o2 p o1 (Yd _)
  have pv:∀q,ZD f p q->o=q\/(o<q/\Over f o q/\f o<=f q):=λq h=>by
   rcases Nat.lt_trichotomy o q with z|z|z
   ·have:=h.1;exact .inr ⟨z,.inl ⟨z,λr r1 r2=>o2 r r1 (by omega)⟩,o2 q z (by omega)⟩
   ·exact .inl z
   ·have:=h.2.2 o z o1;omega
  rcases h with⟨h1,_,h⟩|⟨q,h1,_,h⟩|⟨r,h1,_,h⟩|⟨q,r,h1,h2,h⟩
  ·have:=h1 o o1;omega
  ·refine⟨q,h,by have:=h1.1;omega,?_⟩
   rcases pv q h1 with z|z
   ·exact .inl z
   ·exact .inr z.2.1
  ·have:=h1 o o1;omega
  ·by_cases z:f q<=f r
   ·rw[Yc z]at h
    refine⟨r,h,h2.2.1,.inr (.inl ⟨by have:=h2.1;omega,λs s1 s2=>?_⟩)⟩
    by_cases sp:s<=p
    ·exact o2 s s1 sp
    ·by_cases sr:s=r
     ·rw[sr]
      rcases pv q h1 with y|y
      ·rw[y];exact z
      ·have:=y.2.2;omega
     ·have:=h2.2.2.2 s (by omega) (by omega);omega
   ·rw[Yb z]at h
    refine⟨q,h,by have:=h1.1;omega,?_⟩
    rcases pv q h1 with z|z
    ·exact .inl z
    ·exact .inr z.2.1
 ·have op:=o2 p (Yd _) o1
  have nx:∀r,ZE f n p r->o=r\/(r<o/\Over f o r/\f o<f r):=λr h=>by
   rcases Nat.lt_trichotomy o r with z|z|z
   ·have:=h.2.2.2 o o1 z;omega
   ·exact .inl z
   ·have:=h.1;exact .inr ⟨z,.inr ⟨z,λs s1 s2=>o2 s (by omega) s2⟩,o2 r (by omega) z⟩
  rcases h with⟨_,h1,h⟩|⟨q,_,h1,h⟩|⟨r,_,h1,h⟩|⟨q,r,h1,h2,h⟩
  ·have:=h1 o o1 ho;omega
  ·have:=h1 o o1 ho;omega
  ·refine⟨r,h,h1.2.1,?_⟩
   rcases nx r h1 with z|z
   ·exact .inl z
   ·exact .inr z.2.1
  ·by_cases z:f q<=f r
   ·rw[Yc z]at h
    refine⟨r,h,h2.2.1,?_⟩
    rcases nx r h2 with z|z
    ·exact .inl z
    ·exact .inr z.2.1
   ·rw[Yb z]at h
    refine⟨q,h,by have:=h1.1;omega,.inr (.inr ⟨by have:=h1.1;omega,λs s1 s2=>?_⟩)⟩
    by_cases sp:p<=s
    ·exact o2 s sp s2
    ·by_cases sq:s=q
     ·rw[sq]
      rcases nx r h2 with y|y
      ·rw[y];omega
      ·have:=y.2.2;omega
     ·have:=h1.2.2 s (by omega) (by omega);omega
theorem Zh1 {f:Nat->Int}{n p o q:Nat} (hp:p<n) (ho:o<n) (h:Zy f n p (q:Int)):Over f o p↔o=q\/Over f o q:=by
 refine⟨λk=>?_,λk=>?_⟩
 ·obtain⟨q',e,_,z⟩:=ZgF hp ho h k
  have:q'=q:=by omega
  rw[this]at z;exact z
 ·rcases Zdv hp h with z|⟨q',e,_,z⟩
  ·omega
  ·have:q'=q:=by omega
   rw[this]at z
   rcases k with k|k
   ·rw[k];exact z
   ·exact k.trans z
theorem ZgG {f:Nat->Int}{n p o:Nat} (hp:p<n) (ho:o<n) (h:Zy f n p (-1)):¬ Over f o p:=λk=>by
 obtain⟨q',e,_,z⟩:=ZgF hp ho h k
 omega
theorem Zfr {P Q:Nat->Bool}:∀n,(∀o,o<n->P o=Q o)->(List.range n).countP P=(List.range n).countP Q
 |0,_=>rfl
 |n+1,h=>by
  rw[YR,List.countP_append,List.countP_append,Zfr n (λo ho=>h o (by omega))]
  simp[List.countP_cons,h n (by omega)]
theorem Zb8 {P Q:Nat->Bool}{e:Nat}:∀n,e<n->(∀o,o<n->(P o=true↔o=e\/Q o=true))->Q e=false->(List.range n).countP P=(List.range n).countP Q+1
 |0,h,_,_=>by omega
 |n+1,h,hi,hq=>by
  rw[YR,List.countP_append,List.countP_append]
  by_cases z:e=n
  ·have e1:(List.range n).countP P=(List.range n).countP Q:=Zfr n λo ho=>by
    have:=hi o (by omega)
    cases hP:P o<;>cases hQ:Q o<;>simp[hP,hQ]at this<;>first|rfl|omega
   have hPn:P n=true:=(hi n (by omega)).mpr (.inl z.symm)
   rw[z]at hq
   rw[e1];simp[List.countP_cons,hPn,hq]
  ·rw[Zb8 n (by omega) (λo ho=>hi o (by omega)) hq]
   have:=hi n (by omega)
   have hn:P n=Q n:=by
    cases hP:P n<;>cases hQ:Q n<;>simp[hP,hQ]at this<;>first|rfl|omega
   simp[List.countP_cons,hn];omega
theorem ZlE {P:Nat->Bool}{e n:Nat} (he:e<n) (h:P e=false):(List.range n).countP P<n:=by
 have h1:=Zb8 (P:=λo=>decide (o=e)||P o) (Q:=P) n he (λo _=>by simp) h
 have h2:=List.countP_le_length (p:=λo=>decide (o=e)||P o) (l:=List.range n)
 rw[h1,Y0]at h2
 omega
noncomputable def Zab (T:List Int):Nat->Int->List Nat
 |0,_=>[]
 |k+1,at_=>if 0<=at_/\at_<T.length then at_.toNat::Zab T k (nth T at_.toNat)else []
open Classical in
noncomputable def dep (f:Nat->Int) (n p:Nat):Nat:=(List.range n).countP λo=>decide (Over f o p)
theorem ZiX {f:Nat->Int}{n p:Nat} (hp:p<n):dep f n p<n:=by
 classical
 exact ZlE hp (by simpa using Over.irrefl)
theorem Zkj {f:Nat->Int}{n p q:Nat} (hp:p<n) (h:Zy f n p (q:Int)):dep f n p=dep f n q+1:=by
 classical
 have hq:q<n:=by
  rcases Zdv hp h with z|⟨q',e,z,_⟩<;>omega
 exact Zb8 n hq (λo ho=>by simpa using Zh1 hp ho h) (by simpa using Over.irrefl)
theorem ZmU {f:Nat->Int}{n p:Nat} (hp:p<n) (h:Zy f n p (-1)):dep f n p=0:=by
 classical
 unfold dep
 rw[List.countP_eq_zero]
 intro o ho
 simpa using ZgG hp (by simpa using ho) h
theorem Zfs {P Q:Nat->Bool}:∀n,(∀o,o<n->P o=true->Q o=true)->(List.range n).countP P<=(List.range n).countP Q
 |0,_=>Yd _
 |n+1,h=>by
  rw[YR,List.countP_append,List.countP_append]
  have:=Zfs n (λo ho=>h o (by omega))
  have hn:=h n (by omega)
  cases hP:P n<;>cases hQ:Q n<;>simp[List.countP_cons,hP,hQ]at hn⊢<;>omega
theorem ZlF {f:Nat->Int}{n p q:Nat} (hp:p<n) (hq:q<n) (h:Over f q p):dep f n q<dep f n p:=by
 classical
 have h1:=Zb8 (P:=λo=>decide (o=q)||decide (Over f o q)) (Q:=λo=>decide (Over f o q)) (e:=q) n hq (λo _=>by simp) (by simpa using Over.irrefl)
 have h2:=Zfs (P:=λo=>decide (o=q)||decide (Over f o q)) (Q:=λo=>decide (Over f o p)) n (λo _ ho=>by
  simp at ho⊢
  rcases ho with z|z
  ·rw[z];exact h
  ·exact z.trans h)
 rw[h1]at h2
 exact h2
theorem ZdV {ns T:List Int} (hT:Zp ns T):∀k p,p<ns.length->dep (nth ns) ns.length p<=k->(∀o,o∈Zab T k (nth T p)↔o<ns.length/\Over (nth ns) o p)/\(Zab T k (nth T p)).length=dep (nth ns) ns.length p
 |k,p,hp,hk=>by
  have hE:Zy (nth ns) ns.length p (nth T p):=hT.2 p hp
  rcases Zdv hp hE with z|⟨q,e,hq,hO⟩
  ·have e0:Zab T k (nth T p)=[]:=by
    cases k with
    |zero=>rfl
    |succ k=>rw[Zab,Yb (by omega)]
   rw[e0]
   rw[z]at hE
   exact⟨λo=>⟨λh=>by simp at h,λh=>absurd h.2 (ZgG hp h.1 hE)⟩,by rw[ZmU hp hE];rfl⟩
  ·rw[e]at hE
   have hd:=Zkj hp hE
   obtain⟨k',rfl⟩:∃k',k=k'+1:=⟨k-1,by omega⟩
   have ih:=ZdV hT k' q hq (by omega)
   have eT:((q:Nat):Int).toNat=q:=by omega
   rw[Zab,e,Yc ⟨by omega,by rw[hT.1];omega⟩,eT]
   refine⟨λo=>?_,by simp[ih.2,hd]⟩
   rw[Yj,ih.1 o]
   refine⟨λh=>?_,λh=>?_⟩
   ·rcases h with h|h
    ·rw[h];exact⟨hq,hO⟩
    ·exact⟨h.1,h.2.trans hO⟩
   ·rcases(Zh1 hp h.1 hE).mp h.2 with z|z
    ·exact .inl z
    ·exact .inr ⟨h.1,z⟩
noncomputable def Zdw (T:List Int):List Int:=(List.range T.length).map λp=>((Zab T T.length (nth T p)).length:Int)
theorem ZdW (T:List Int):(Zdw T).length=T.length:=by simp[Zdw]
theorem Zh2 {T:List Int}{p:Nat} (h:p<T.length):nth (Zdw T) p=(Zab T T.length (nth T p)).length:=by
 simp[nth,Zdw,Yg,h]
theorem Zkk {ns T:List Int} (hT:Zp ns T):Zp (Zdw T) T:=by
 have eL:T.length=ns.length:=hT.1
 have hd:∀p,p<ns.length->nth (Zdw T) p=(dep (nth ns) ns.length p:Int):=λp hp=>by
  rw[Zh2 (by omega),eL,(ZdV hT ns.length p hp (YX (ZiX hp))).2]
 refine⟨(ZdW T).symm,λp hp=>?_⟩
 rw[ZdW,eL]at hp⊢
 have lt:∀q p,q<ns.length->p<ns.length->Over (nth ns) q p->nth (Zdw T) q<nth (Zdw T) p:=λq p hq hp h=>by
  rw[hd q hq,hd p hp]
  have:=ZlF hp hq h;omega
 generalize nth (Zdw T)=g at lt
 clear hd
 have pv:∀q,ZD (nth ns) p q->ZD g p q:=λq h=>by
  refine⟨h.1,Int.le_of_lt (lt q p (by have:=h.1;omega) hp (.inl ⟨h.1,λr r1 r2=>?_⟩)),λr r1 r2=>lt p r hp (by omega) (.inr ⟨r2,λs s1 s2=>h.2.2 s (by omega) s2⟩)⟩
  by_cases z:r=p
  ·rw[z];exact h.2.1
  ·have:=h.2.2 r r1 (by omega);have:=h.2.1;omega
 have nx:∀r,ZE (nth ns) ns.length p r->ZE g ns.length p r:=λq h=>by
  refine⟨h.1,h.2.1,lt q p h.2.1 hp (.inr ⟨h.1,λr r1 r2=>?_⟩),λs s1 s2=>Int.le_of_lt (lt p s hp (by have:=h.2.1;omega) (.inl ⟨s1,λr r1 r2=>h.2.2.2 r r1 (by omega)⟩))⟩
  by_cases z:r=p
  ·rw[z];exact h.2.2.1
  ·have:=h.2.2.2 r (by omega) r2;have:=h.2.2.1;omega
 have np:ZaJ (nth ns) p->ZaJ g p:=λh q hq=>lt p q hp (by omega) (.inr ⟨hq,λr r1 r2=>h r r2⟩)
 have nn:Zaw (nth ns) ns.length p->Zaw g ns.length p:=λh r r1 r2=>Int.le_of_lt (lt p r hp r2 (.inl ⟨r1,λs s1 s2=>h s s1 (by omega)⟩))
 have hE:Zy (nth ns) ns.length p (T.getD p 0):=hT.2 p hp
 rcases hE with⟨h1,h2,h⟩|⟨q,h1,h2,h⟩|⟨r,h1,h2,h⟩|⟨q,r,h1,h2,h⟩
 ·exact .inl ⟨np h1,nn h2,h⟩
 ·exact .inr (.inl ⟨q,pv q h1,nn h2,h⟩)
 ·exact .inr (.inr (.inl ⟨r,np h1,nx r h2,h⟩))
 ·refine .inr (.inr (.inr ⟨q,r,pv q h1,nx r h2,?_⟩))
  rw[h]
  have hq:q<ns.length:=by have:=h1.1;omega
  by_cases z:nth ns q<=nth ns r
  ·have:=lt q r hq h2.2.1 (.inl ⟨by have:=h1.1;have:=h2.1;omega,λs s1 s2=>by
    by_cases y:s=r
    ·rw[y];exact z
    ·by_cases y2:s=p
     ·rw[y2];exact h1.2.1
     ·have:=h1.2.1
      by_cases y3:s<p
      ·have:=h1.2.2 s s1 y3;omega
      ·have:=h2.2.2.2 s (by omega) (by omega);omega⟩)
   rw[Yc z,Yc (by omega)]
  ·have:=lt r q h2.2.1 hq (.inr ⟨by have:=h1.1;have:=h2.1;omega,λs s1 s2=>by
    have:=h1.2.1;have:=h2.2.2.1
    by_cases y:s=q
    ·rw[y];omega
    ·by_cases y2:s=p
     ·rw[y2];omega
     ·by_cases y3:s<p
      ·have:=h1.2.2 s (by omega) y3;omega
      ·have:=h2.2.2.2 s (by omega) (by omega);omega⟩)
   rw[Yb z,Yb (by omega)]
theorem Zkl (T:List Int):(∃ns,Zp ns T)↔Zp (Zdw T) T:=⟨λ⟨_,h⟩=>Zkk h,λh=>⟨_,h⟩⟩
end L2
namespace L2
open PySem PySem.Spec PyProof.Rows PySem.W
noncomputable def ZbL (es:List Int) (A B:List Nat) (i:Nat):List Int:=match A.getLast? with
 |some q=>(match B.head? with|some b=>es.set b i|none=>es).set i (q:Int)
 |none=>match B.head? with|some b=>es.set b i|none=>es
noncomputable def Zr (l:List Nat):List V:=l.map λq=>V.int (q:Nat)
theorem getD_set (l:List Int) (a p:Nat) (v:Int) (h:p<l.length):(l.set a v).getD p 0=if a=p then v else l.getD p 0:=by
 rw[Yg,Yg]
 by_cases e:a=p
 ·subst e;rw[Yc rfl,List.getElem?_set_self h];rfl
 ·rw[Yb e,List.getElem?_set_ne e]
theorem ZcF (es:List Int) (A B:List Nat) (i:Nat):(ZbL es A B i).length=es.length:=by
 unfold ZbL
 cases A.getLast?<;>cases B.head?<;>simp
theorem Zby (es:List Int) (A B:List Nat) (i p:Nat) (hp:p<es.length) (hb:∀b,B.head?=some b->b≠i):(ZbL es A B i).getD p 0=if p=i then (match A.getLast? with|some q=>(q:Int)|none=>es.getD i 0)else if B.head?=some p then (i:Int)else es.getD p 0:=by
 unfold ZbL
 cases hA:A.getLast? with
 |none =>
  cases hB:B.head? with
  |none =>
   by_cases e:p=i
   ·rw[Yc e,e]
   ·rw[Yb e,Yb (by simp)]
  |some b =>
   show(es.set b i).getD p 0=_
   rw[getD_set _ _ _ _ hp]
   by_cases e:p=i
   ·rw[Yc e,Yb (by rw[e];exact hb b hB),e]
   ·rw[Yb e]
    by_cases e2:b=p
    ·rw[Yc e2,Yc (by rw[e2])]
    ·rw[Yb e2,Yb (by intro z;exact e2 (YA z))]
 |some q =>
  cases hB:B.head? with
  |none =>
   show(es.set i q).getD p 0=_
   rw[getD_set _ _ _ _ hp]
   by_cases e:p=i
   ·rw[Yc e,Yc e.symm]
   ·rw[Yb e,Yb (λz=>e z.symm),Yb (by simp)]
  |some b =>
   show((es.set b i).set i q).getD p 0=_
   rw[getD_set _ _ _ _ (by simpa using hp),getD_set _ _ _ _ hp]
   by_cases e:p=i
   ·rw[Yc e,Yc e.symm]
   ·rw[Yb e,Yb (λz=>e z.symm)]
    by_cases e2:b=p
    ·rw[Yc e2,Yc (by rw[e2])]
    ·rw[Yb e2,Yb (by intro z;exact e2 (YA z))]
theorem ZiY:∀(l:List Nat) (i lo:Nat),l.Pairwise (· < ·)->(∀q∈l,lo<=q/\q<i)->l.length+lo<=i\/l=[]
 |[],_,_,_,_=>.inr rfl
 |q::r,i,lo,h,hq=>by
  have h1:=hq q (by simp)
  have hr:=YZ.mp h
  rcases ZiY r i (q+1) hr.2 (λx hx=>⟨hr.1 x hx,(hq x (by simp[hx])).2⟩)with z|z
  ·left;simp;omega
  ·left;rw[z];simp;omega
theorem ZI (l:List Nat):(Zr l).length=l.length:=by simp[Zr]
theorem Zdb (a b:List Nat):Zr (a++b)=Zr a++Zr b:=by simp[Zr]
theorem Zft {l:List Nat}{j q:Nat} (h:l[j]?=some q):atI (Zr l) (j:Int)=some (V.int (q:Nat)):=by
 have hj:=(Yw.mp h).1
 have e:=(Yw.mp h).2
 rw[ZiU rfl (by rw[ZI];exact hj)]
 simp[Zr,e]
theorem Zho {n j:Nat} (h:j<n):ixN n (j:Int)=some j:=by
 unfold ixN
 rw[Yc (by omega),Yc (by omega)];simp
noncomputable def Zcz (T:List Int) (p:Nat):List Int:=(Zab T T.length (nth T p)).map λq=>((q:Nat):Int)
noncomputable def ZdX (T:List Int):Prop:=T.length<=40/\∃ns,Zp ns T
theorem Zh3 (T:List Int):∀k a,(Zab T k a).length<=k
 |0,_=>by simp[Zab]
 |k+1,a=>by
  rw[Zab]
  split
  ·have:=Zh3 T k (nth T a.toNat);simp;omega
  ·simp
noncomputable def Z8 (T:List Int):Nat->Int->Int
 |0,a=>a
 |j+1,a=>if 0<=a/\a<T.length then Z8 T j (nth T a.toNat)else a
theorem ZgH (T:List Int):∀j a,0<=Z8 T j a->Z8 T j a<T.length->(Zab T j a).length=j->Zab T (j+1) a=Zab T j a++[(Z8 T j a).toNat]/\Z8 T (j+1) a=nth T (Z8 T j a).toNat
 |0,a,h0,h1,_=>by
  have h0':0<=a:=h0
  have h1':a<T.length:=h1
  constructor
  ·simp[Zab,Z8,h0',h1']
  ·simp[Z8,h0',h1']
 |j+1,a,h0,h1,hl=>by
  rw[Zab]at hl
  by_cases z:0<=a/\a<T.length
  ·rw[Yc z]at hl
   have e1:Z8 T (j+1) a=Z8 T j (nth T a.toNat):=by rw[Z8,Yc z]
   rw[e1]at h0 h1
   have ih:=ZgH T j (nth T a.toNat) h0 h1 (by simpa using hl)
   constructor
   ·rw[Zab,Yc z,ih.1,Zab.eq_def T (j+1) a]
    simp only[Yc z,e1];simp
   ·rw[Z8,Yc z,ih.2,e1]
  ·rw[Yb z]at hl;simp at hl
theorem ZgI (T:List Int):∀j k a,j<=k->(Zab T j a).length=j->¬ (0<=Z8 T j a/\Z8 T j a<T.length)->Zab T k a=Zab T j a
 |0,k,a,_,_,h=>by
  have h':¬ (0<=a/\a<T.length):=h
  cases k with
  |zero=>rfl
  |succ k=>rw[show Zab T 0 a=[]from rfl,Zab,Yb h']
 |j+1,k,a,hk,hl,h=>by
  rw[Zab]at hl
  by_cases z:0<=a/\a<T.length
  ·rw[Yc z]at hl
   rw[Z8,Yc z]at h
   obtain⟨k',rfl⟩:∃k',k=k'+1:=⟨k-1,by omega⟩
   rw[Zab,Yc z,ZgI T j k' _ (by omega) (by simpa using hl) h,Zab,Yc z]
  ·rw[Yb z]at hl;simp at hl
section
variable {X:Cx}
theorem Zkm {K:Frag} (hK:X.K=K):OpR X (compareOp .NotIn) (rIn K true):=hK▸Zhf
end
theorem Zkn (xs:List Int):(xs.map V.int).all flatV=true:=by
 induction xs with
 |nil=>rfl
 |cons x r ih=>rw[YC,List.all_cons,ih];rfl
theorem ZmV (x:Int) (xs:List Int):inV (.int x) (xs.map V.int)=decide (x∈xs):=by
 induction xs with
 |nil=>rfl
 |cons y r ih =>
  have:inV (.int x) ((y::r).map V.int)=(decide (y=x)||inV (.int x) (r.map V.int)):=rfl
  rw[this,ih]
  by_cases z:y=x
  ·simp[z]
  ·have:¬ x=y:=λh=>z h.symm
   simp[z,this]
theorem ZdY {a b:TS}{D:Ends}{σ:St}{H:Hp} (Mid:St->Hp->Prop) (h1:∀R:St->Hp->Prop,(∀σ' H',Mid σ' H'->R σ' H')->a {D with nx:=R} σ H) (h2:∀σ' H',Mid σ' H'->b D σ' H'):tSeq a b D σ H:=h1 _ h2
end L2
namespace L2
open PySem PySem.Spec PyProof.Rows
structure CellsOf (cl:List (Str×Addr)) (n0:Nat) (cs:List (Str×Addr)) (h0 h:Heap) (done:List (Str×NameKind)):Prop where
 old:∀b o,h0.get? b=some o->h.get? b=some o
 sz:n0<=h.objs.size
 mem:∀p∈cs,p∈cl\/(n0<=p.2/\p.2<h.objs.size/\h.IsCell p.2 none)
 inj:∀p∈cs,∀q∈cs,n0<=p.2->p.2=q.2->p.1=q.1
 own:∀y∈done,y.2=.cell->∃c,cs.lookup y.1=some c/\n0<=c
 oth:∀x,(∀y∈done,y.2=.cell->y.1≠x)->cs.lookup x=cl.lookup x
theorem Zep {M:Model}{A:Around}{E:Value->Shared->Prop}{cl:List (Str×Addr)}{n0:Nat}{h0:Heap} (hcl:∀p∈cl,p.2<n0):∀(names:List (Str×NameKind)) (cs:List (Str×Addr)) (done:List (Str×NameKind)) (s:Shared),CellsOf cl n0 cs h0 s.heap done ->
  wpAny M A (forIn names cs λ(x:Str×NameKind) (r:List (Str×Addr))=>(match x with
   |(name,kind)=>if (kind==NameKind.cell)=true then do
     let a <-alloc {cls:=.type "cell",data:=.cell none}
     pure (ForInStep.yield ((name,a)::r))
    else pure (ForInStep.yield r):Sem (ForInStep (List (Str×Addr))))) (λcs' s'=>∃h',s'={s with heap:=h'}/\CellsOf cl n0 cs' h0 h' (done++names)) E s
 |[],cs,done,s,I=>by
  rw[List.forIn_nil,List.append_nil]
  exact Ye ⟨s.heap,rfl,I⟩
 |(n,k)::r,cs,done,s,I=>by
  rw[List.forIn_cons]
  by_cases hk:k=.cell
  ·subst hk
   simp only[beq_self_eq_true,if_true]
   refine Ya (Ya (wpAny_alloc (Ye ?_)))
   have hget:(s.heap.push {cls:=.type "cell",data:=.cell none}).get? s.heap.objs.size=some {cls:=.type "cell",data:=.cell none}:=Yy _ rfl
   have I':CellsOf cl n0 ((n,s.heap.objs.size)::cs) h0 (s.heap.push {cls:=.type "cell",data:=.cell none}) (done++[(n,.cell)]):=by
    refine⟨λb o e=>Ym _ (I.old b o e),by rw[Heap.size_push];exact Nat.le_succ_of_le I.sz,λp hp=>?_,λp hp q hq hn e=>?_,λy hy hc=>?_,λx hx=>?_⟩
    ·rcases Yj.mp hp with z|z
     ·subst z
      exact .inr ⟨I.sz,by rw[Heap.size_push];exact Nat.lt_succ_self _,_,hget,rfl⟩
     ·rcases I.mem p z with w|⟨w1,w2,o,w3,w4⟩
      ·exact .inl w
      ·exact .inr ⟨w1,by rw[Heap.size_push];exact YS w2,o,Ym _ w3,w4⟩
    ·have lt:∀p∈cs,p.2<s.heap.objs.size:=λp hp=>by
      rcases I.mem p hp with w|w
      ·exact Yt (hcl p w) I.sz
      ·exact w.2.1
     rcases Yj.mp hp with z|z<;>rcases Yj.mp hq with z'|z'
     ·rw[z,z']
     ·subst z;exact absurd (show s.heap.objs.size<s.heap.objs.size from(show s.heap.objs.size=q.2 from e)▸lt q z') (YG _)
     ·subst z';exact absurd (show s.heap.objs.size<s.heap.objs.size from(show p.2=s.heap.objs.size from e)▸lt p z) (YG _)
     ·exact I.inj p z q z' hn e
    ·rcases Ys.mp hy with z|z
     ·obtain⟨c,e1,e2⟩:=I.own y z hc
      by_cases hx:y.1=n
      ·exact⟨s.heap.objs.size,by rw[hx];simp,I.sz⟩
      ·have hb:(y.1==n)=false:=by simpa using hx
       exact⟨c,by simp only[List.lookup_cons,hb];exact e1,e2⟩
     ·have:y=(n,.cell):=by simpa using z
      subst this
      exact⟨s.heap.objs.size,by simp,I.sz⟩
    ·have hxn:n≠x:=hx (n,.cell) (by simp) rfl
     have hb:(x==n)=false:=by simpa using hxn.symm
     simp only[List.lookup_cons,hb]
     exact I.oth x λy hy=>hx y (YN _ hy)
   refine thn (Zep hcl r _ _ {s with heap:=s.heap.push {cls:=.type "cell",data:=.cell none}} I') λcs' s' ⟨h',e1,e2⟩=>⟨h',e1,?_⟩
   rw[YY]at e2
   exact e2
  ·have e1:(k==NameKind.cell)=false:=by cases k<;>first|rfl|exact absurd rfl hk
   simp only[e1,Bool.false_eq_true,if_false]
   refine Ya (Ye ?_)
   have I':CellsOf cl n0 cs h0 s.heap (done++[(n,k)]):=by
    refine⟨I.old,I.sz,I.mem,I.inj,λy hy hc=>?_,λx hx=>I.oth x λy hy=>hx y (YN _ hy)⟩
    rcases Ys.mp hy with z|z
    ·exact I.own y z hc
    ·have:y=(n,k):=by simpa using z
     subst this
     exact absurd hc hk
   refine thn (Zep hcl r _ _ s I') λcs' s' ⟨h',e1,e2⟩=>⟨h',e1,?_⟩
   rw[YY]at e2
   exact e2
theorem ZiZ {M:Model}{A:Around}{E:Value->Shared->Prop}{s:Shared}{scope:Scope}{globals:Addr}{cl:List (Str×Addr)}{qual:Str}{around:Env}{Q:Env->Shared->Prop} (hcl:∀p∈cl,p.2<s.heap.objs.size)
  (h:∀cs h',CellsOf cl (s.heap.objs.size+1) cs (s.heap.push {cls:=.type "dict",data:=.dict #[]}) h' scope.names->Q {scope:=scope,locals:=s.heap.objs.size,globals:=globals,cells:=cs,qual:=qual,func:=none,code:=around.code,frame:=around.frame,builtins:=around.builtins} {s with heap:=h'}) :
  wpAny M A (newFunctionEnv scope globals cl [] qual none .none (some around)) Q E s:=by
 unfold newFunctionEnv
 refine Ya (wpAny_alloc ?_)
 refine Ya (thn (Zep (cl:=cl) (n0:=s.heap.objs.size+1) (h0:=s.heap.push {cls:=.type "dict",data:=.dict #[]}) (λp hp=>YS (hcl p hp)) scope.names cl [] {s with heap:=s.heap.push {cls:=.type "dict",data:=.dict #[]}} ⟨λb o e=>e,by rw[Heap.size_push];exact Yd _,λp hp=>.inl hp,λp hp q hq hn e=>absurd (hcl p hp) (Nat.not_lt_of_le (Nat.le_of_succ_le hn)),λy hy=>(nomatch hy),λx hx=>rfl⟩) λcs s' ⟨h',e1,e2⟩=>?_)
 subst e1
 rw[List.nil_append]at e2
 exact Ya (Ye (Ye (h cs h' e2)))
noncomputable def Zax (around scope:Scope):Bool :=
 scope.kind==.function&&around.kind==.function&&scope.names.all λy=>match y.2 with
  |.local=>scope.names.lookup y.1==some .local
  |.cell=>scope.names.lookup y.1==some .cell
  |.free=>(scope.names.lookup y.1==some .free)&&(around.names.lookup y.1==some .cell||around.names.lookup y.1==some .free)
  |_=>true
theorem ZdZ {a s:Scope} (h:Zax a s=true):s.kind=.function:=by
 simp only[Zax,Bool.and_eq_true,beq_iff_eq]at h;exact h.1.1
theorem Zdx {a s:Scope} (h:Zax a s=true) {y:Str×NameKind} (hy:y∈s.names):(match y.2 with
  |.local=>s.names.lookup y.1==some .local
  |.cell=>s.names.lookup y.1==some .cell
  |.free=>(s.names.lookup y.1==some .free)&&(a.names.lookup y.1==some .cell||a.names.lookup y.1==some .free)
  |_=>true)=true:=by
 simp only[Zax,Bool.and_eq_true]at h
 exact List.all_eq_true.mp h.2 y hy
theorem Zgk {a s:Scope} (h:Zax a s=true):∀y∈s.names,y.2=.local->s.names.lookup y.1=some .local:=λy hy e=>by
 have q:=Zdx h hy
 rw[e]at q
 exact beq_iff_eq.mp q
theorem Zhp {a s:Scope} (h:Zax a s=true):∀y∈s.names,y.2=.cell->s.names.lookup y.1=some .cell:=λy hy e=>by
 have q:=Zdx h hy
 rw[e]at q
 exact beq_iff_eq.mp q
theorem Zb9 {a s:Scope} (h:Zax a s=true):∀y∈s.names,y.2=.free->s.names.lookup y.1=some .free/\(a.names.lookup y.1=some .cell\/a.names.lookup y.1=some .free):=λy hy e=>by
 have q:=Zdx h hy
 rw[e]at q
 simp only[Bool.and_eq_true,Bool.or_eq_true,beq_iff_eq]at q
 exact q
noncomputable def Z2 (X:Cx) (Nc:List Str) (scope:Scope) (cs:List (Str×Addr)) (C:Addr) (s2:Shared) (H2:Hp) (fp:List Addr):Cx :=
 {Zlq X Nc scope cs C s2 H2 fp with fn:=λx=>scope.names.lookup x==some .cell}
theorem Zh4 {env:Env}{scope:Scope} (h:∀y∈scope.names,y.2=.free->∃c,env.cells.lookup y.1=some c) :
  ∃cl,closureFor scope env=pure cl/\(∀p∈cl,env.cells.lookup p.1=some p.2)/\(∀y∈scope.names,y.2=.free->∃c,cl.lookup y.1=some c/\env.cells.lookup y.1=some c):=by
 obtain⟨cl,e,h1,h2,h3⟩:=Zdt (env:=env) scope.names [] h
 have up:∀p∈cl,env.cells.lookup p.1=some p.2:=λp q=>by
  rcases h1 _ q with z|z
  ·cases z
  ·exact z
 refine⟨cl,?_,up,λy hy hf=>?_⟩
 ·unfold closureFor
  simp only[bind_pure_comp]at e⊢
  rw[e]
  exact pure_bind _ _
 ·obtain⟨c,hc⟩:=h3 y hy hf
  cases q:cl.lookup y.1 with
  |none=>exact absurd (List.lookup_eq_none_iff.mp q _ hc) (by simp)
  |some c'=>exact⟨c',rfl,up _ (PySem.mem_of_lookup q)⟩
section
variable {X:Cx}
theorem Zh5 {pins:List (Addr×Obj)}{σ:St}{H2:Hp}{s2:Shared}{Nc:List Str}{js:List (Option Nat)}{scope:Scope}{cs:List (Str×Addr)}{fp:List Addr}{h1:Heap}{tk:Nat}{D C:Addr}{oD:Obj}{m:Str->Option Value}
  (I:Inv X pins σ H2 s2) (hok:Zax X.env.scope scope=true) (htk:Zau X.N Nc scope js 0=true) (up:∀x c,cs.lookup x=some c->X.env.cells.lookup x=some c\/(C<c/\h1.IsCell c none)) (hinj:∀x y c,cs.lookup x=some c->cs.lookup y=some c->x=y) (hown:∀y∈scope.names,y.2=.cell->∃c,cs.lookup y.1=some c/\C<c) (hfr:∀y∈scope.names,y.2=.free->∃c,cs.lookup y.1=some c/\X.env.cells.lookup y.1=some c)
  (hfp:∀b∈fp,FpOk X pins H2 b) (hfl:∀b∈fp,b<s2.heap.objs.size) (hD:D=s2.heap.objs.size) (hC:C=s2.heap.objs.size+1) (old:∀b o,s2.heap.get? b=some o->h1.get? b=some o) (hns:h1.Ns C m) (hoD:h1.get? D=some oD) (hdD:∀v,oD.data≠.cell v) :
  Inv (Z2 X Nc scope cs C s2 H2 fp) [(D,oD)] (iniC js σ) H2 {s2 with heap:=h1,toks:=tk}:=by
 have leC:s2.heap.objs.size<=C:=by rw[hC];exact Y6 _
 have leD:s2.heap.objs.size<=D:=Nat.le_of_eq hD.symm
 have kf:∀x,((compEnvC scope cs C X.env).kindOf x=some .cell\/(compEnvC scope cs C X.env).kindOf x=some .free)->∃c,cs.lookup x=some c:=λx hx=>by
  have:∃k,(compEnvC scope cs C X.env).kindOf x=some k/\(k=.cell\/k=.free):=hx.elim (λq=>⟨_,q,.inl rfl⟩) λq=>⟨_,q,.inr rfl⟩
  obtain⟨k,e,hk⟩:=this
  obtain⟨k',h1,h2⟩:=Zah (show(scope.names.map _).lookup x=some k from e)
  have hm:=lookup_mem h1
  have:k'=.free\/k'=.cell:=by
   rcases h2 with q|q
   ·subst q
    exact hk.symm
   ·exact .inl q.1
  rcases this with z|z
  ·subst z
   obtain⟨c,q,_⟩:=hfr _ hm rfl
   exact⟨c,q⟩
  ·subst z
   obtain⟨c,q,_⟩:=hown _ hm rfl
   exact⟨c,q⟩
 have nC:∀c x,X.env.cells.lookup x=some c->c<s2.heap.objs.size:=λc x e=>by
  obtain⟨v,q⟩:=I.cell x c e
  exact q.lt
 have noB:∀b,b∈fp->b∉frs X.stack:=λb hb q=>by
  rcases Yj.mp (I.Zei b q)with z|z
  ·exact(hfp b hb).2.1 z
  ·exact(hfp b hb).2.2.1 z
 have okX:(Z2 X Nc scope cs C s2 H2 fp).Ok:=by
  refine⟨I.ok.mod,(show scope.kind=.function from ZdZ hok),I.ok.glob,I.ok.blt,?_,λx y c e1 e2=>hinj x y c e1 e2,λx hx=>?_,(λx c e1 e2=>?_),I.ok.hd,I.ok.frames,.inl rfl,λb hb=>⟨?_,λx c e=>(up _ _ e).elim (λz=>(hfp b hb).2.2.2.2.1 x c z) λz=>Nat.ne_of_gt (Nat.lt_trans (Yt (hfl b hb) leC) z.1)⟩,I.bs,Yn I.ok.bsz I.sz,λb o e hb=>?_,λb hb=>noB b hb,I.stack,I.Zg8⟩
  ·show s2.heap.objs.size<=C;exact leC
  ·exact kf x hx
  ·have hm:=lookup_mem (beq_iff_eq.mp (show(scope.names.lookup x==some NameKind.cell)=true from e1))
   obtain⟨c',q1,q2⟩:=hown _ hm rfl
   have:c=c':=YA ((show cs.lookup x=some c from e2).symm.trans q1)
   rw[this]
   exact Yn leC (YX q2)
  ·exact Yl (Yt (hfl b hb) leC)
  ·rcases(hfp b hb).2.2.2.1 with q|q
   ·exact I.ok.noex b o e q
   ·exact absurd (Yt (Yi e) (Yn I.ok.bsz q)) (YG _)
 refine⟨okX,rfl,I.bare,Un.kept old,⟨m,hns,λi x v e1 e2 e3=>?_⟩,λx c e=>?_,I.hok.fresh leC,λx c e=>(up _ _ e).elim (λz=>I.freeC x c z) λz=>I.hok.fresh (Yn leC (YX z.1)),λp hp=>?_,I.hok.kept old,?_⟩
 ·have e2':(iniC js σ)[i]?=some (some v):=e2
  unfold iniC at e2'
  rw[YB]at e2'
  cases q:js[i]? with
  |none=>rw[q]at e2';cases e2'
  |some j0 =>
   cases j0 with
   |none=>rw[q]at e2';cases e2'
   |some j =>
    rw[q]at e2'
    simp only[Option.map_some,Option.some.injEq]at e2'
    have e4:σ[j]?=some (some v):=by
     cases z:σ[j]? with
     |none=>rw[z]at e2';cases e2'
     |some o=>rw[z]at e2';simp only[Option.join_some]at e2';rw[e2']
    obtain⟨y,y1,y2,y3⟩:=Zen htk q
    rw[Nat.zero_add]at y1
    have:x=y:=YA ((show Nc[i]?=some x from e1).symm.trans y1)
    subst this
    have hm:=lookup_mem y3
    obtain⟨c,c1,c2⟩:=hfr _ hm rfl
    have hk:=(Zb9 hok _ hm rfl).2
    obtain⟨m0,hn0,hl0⟩:=I.loc
    obtain⟨u,r,l⟩:=hl0 j x v y2 e4 (hk.elim (λz=>.inr (.inl z)) λz=>.inr (.inr z))
    refine⟨u,r,.inr ⟨?_,c,c1,?_⟩⟩
    ·rcases e3 with z|z|z
     ·obtain⟨k',w1,w2⟩:=Zah (show(scope.names.map _).lookup x=some NameKind.local from z)
      rw[y3]at w1;cases w1
      rcases w2 with w|w
      ·cases w
      ·cases w.2
     ·exact .inl z
     ·exact .inr z
    ·rcases l with⟨lk,_⟩|⟨_,c',c3,c4⟩
     ·rcases hk with z|z
      ·rw[show X.env.kindOf x=some .cell from z]at lk;cases lk
      ·rw[show X.env.kindOf x=some .free from z]at lk;cases lk
     ·rw[c2]at c3;cases c3
      obtain⟨oc,w1,w2⟩:=c4
      exact⟨oc,old _ _ w1,w2⟩
 ·rcases up _ _ e with z|z
  ·obtain⟨v,oc,w1,w2⟩:=I.cell x c z
   exact⟨v,oc,old _ _ w1,w2⟩
  ·exact⟨_,z.2⟩
 ·have:p=(D,oD):=by
   have hp':p∈([]++[(D,oD)]:List (Addr×Obj)):=hp
   simpa using hp'
  subst this
  refine⟨hoD,I.hok.fresh leD,(by show D≠C;rw[hD,hC];exact Yl (Nat.lt_succ_self _)),λhb=>?_,hdD⟩
  have hb':D∈frs X.stack:=hb
  obtain⟨_,o,ho,_⟩:=I.stack.mem hb'
  exact absurd (Yt (Yi ho) leD) (YG _)
 ·have:=Zdu htk
  show(iniC js σ).length=Nc.length
  unfold iniC;rw[Yh];omega
theorem ZgJ {pins:List (Addr×Obj)}{σ:St}{H:Hp}{s:Shared}{tg elt iter:Expr}{ifs:List Expr}{scope:Scope}{pos:Pos}{wi:TI}{g:TG}{tt:TT}{te:TE}{Nc:List Str}{js:List (Option Nat)}{use:Option (Value->Sem Unit)}{Q:VK}{QQ:Value->Shared->Prop}
  (hc:X.calm=true) (hok:Zax X.env.scope scope=true) (htk:Zau X.N Nc scope js 0=true) (hi:PI X tg iter wi)
  (hg:∀cl C s2 H2 fp,PG (Z2 X Nc scope cl C s2 H2 fp) tg g) (ht:∀cl C s2 H2 fp,Zkc (Z2 X Nc scope cl C s2 H2 fp) ifs tt) (he:∀cl C s2 H2 fp,PE (Z2 X Nc scope cl C s2 H2 fp) elt te)
  (hs:∀x,foldedSetIterable iter X.env x=pure x) {L:List Nat} (ho:ZjA g L) (hL:(L.all λk=>js[k]?==some none)=true) (I:Inv X pins σ H s) (h:ZjB wi g tt te js σ H Q)
  (fin:∀(D C:Addr) (H' H2:Hp) (s2 s':Shared) (xs:List V) (m:Str->Option Value),Inv X pins σ H2 s2->H' C=none->C=D+1->D=s2.heap.objs.size->s'.heap.Ns C m->(∀h',Heap.SameBut C s'.heap h'->Inv X pins σ (upd H' D (.lst xs)) {s' with heap:=h'})->Q (.ref D) (upd H' D (.lst xs)) ->
   compPost (model X.prog X.w) X.A X.xe use QQ (.ref D) C (.ok .next) s') :
  wpAny (model X.prog X.w) X.A (comprehension (.ListComp elt [⟨tg,iter,ifs,0⟩] scope pos) scope X.env (firstIterPos [⟨tg,iter,ifs,0⟩] pos) (newList []) false (eval iter X.env) use) QQ X.xe s:=by
 have hcells:∀y∈scope.names,y.2=.free->∃c,X.env.cells.lookup y.1=some c:=λy hy hf=>I.ok.has y.1 (Zb9 hok y hy hf).2
 obtain⟨cl,hcl,upM,hfr0⟩:=Zh4 hcells
 have hk:=ZdZ hok
 refine wpAny_comprehension_free (use:=use) rfl hs hcl hk (Zgk hok) (thn (hi pins s σ H _ I h) λv s1 h1=>thn h1 λitv s2 h2=>?_)
 obtain⟨it,fp,tn,J,H2,e,I2,T,st2,f2,W,⟨m0,w0⟩,turn⟩:=h2
 subst e
 have clt:∀p∈cl,p.2<s2.heap.objs.size:=λp hp=>by
  obtain⟨v,q⟩:=I2.cell p.1 p.2 (upM p hp)
  exact q.lt
 refine wpAny_newObj_type (ZiZ (λp hp=>?_) λcs h₁ CO=>?_)
 ·show p.2<(s2.heap.push _).objs.size
  rw[Heap.size_push];exact YS (clt p hp)
 dsimp only at CO⊢
 generalize hH2:s2.heap.push {cls:=.type "list",dict:=none,data:=.seq ([]:List Value).toArray}=HH at CO⊢
 have hC:HH.objs.size=s2.heap.objs.size+1:=by rw[<-hH2,Heap.size_push]
 have hcl':∀p∈cl,p.2<HH.objs.size:=λp hp=>by rw[hC];exact YS (clt p hp)
 have hns₁:h₁.Ns HH.objs.size (λ_=>none):=⟨_,#[],_,CO.old _ _ (Yy _ rfl),rfl,λe he=>absurd he (by simp),λn=>rfl⟩
 have up:∀x c,cs.lookup x=some c->X.env.cells.lookup x=some c\/(HH.objs.size<c/\h₁.IsCell c none):=λx c e=>by
  rcases CO.mem _ (PySem.mem_of_lookup e)with z|z
  ·exact .inl (upM _ z)
  ·exact .inr ⟨z.1,z.2.2⟩
 have hinj:∀x y c,cs.lookup x=some c->cs.lookup y=some c->x=y:=λx y c e1 e2=>by
  have m1:=PySem.mem_of_lookup e1
  have m2:=PySem.mem_of_lookup e2
  rcases CO.mem _ m1 with z|z
  ·rcases CO.mem _ m2 with z'|z'
   ·exact I2.ok.inj x y c (upM _ z) (upM _ z')
   ·exact absurd (hcl' _ z) (Nat.not_lt_of_le (Nat.le_of_succ_le z'.1))
  ·exact CO.inj _ m1 _ m2 z.1 rfl
 have hfr:∀y∈scope.names,y.2=.free->∃c,cs.lookup y.1=some c/\X.env.cells.lookup y.1=some c:=λy hy hf=>by
  obtain⟨c,q1,q2⟩:=hfr0 y hy hf
  refine⟨c,?_,q2⟩
  rw[CO.oth y.1 λy' hy' hc' z=>?_]
  ·exact q1
  ·have w1:=Zhp hok y' hy' hc'
   have w2:=(Zb9 hok y hy hf).1
   rw[z,w2]at w1;cases w1
 have hfl:∀b∈fp,b<s2.heap.objs.size:=λb hb=>by
  obtain⟨o,ho,_⟩:=T.obj 0 _ st2 b hb
  exact Yi ho
 have hDC:s2.heap.objs.size≠HH.objs.size:=by rw[hC];exact Yl (Nat.lt_succ_self _)
 have old:∀b o,s2.heap.get? b=some o->h₁.get? b=some o:=λb o e=>CO.old b o (Ym _ (hH2▸Ym _ e))
 have hacc:h₁.get? s2.heap.objs.size=some {cls:=.type "list",dict:=none,data:=.seq ([]:List Value).toArray}:=CO.old _ _ (Ym _ (hH2▸Yy _ rfl))
 have I4:=Zh5 (Nc:=Nc) (js:=js) (tk:=s2.toks) I2 hok htk up hinj (λy hy hc=>CO.own y hy hc) hfr f2 hfl rfl hC old hns₁ hacc (by intro v z;cases z)
 have st4:tn 0 h₁:=T.keep _ _ _ st2 λb _ o e=>old b o e
 generalize hXc:Z2 X Nc scope cs HH.objs.size s2 H2 fp=Xc at I4
 have hXA:Xc.A=X.A:=by rw[<-hXc];rfl
 have hXe:Xc.env=compEnvC scope cs HH.objs.size X.env:=by rw[<-hXc];rfl
 have hXp:Xc.prog=X.prog:=by rw[<-hXc];rfl
 have hXw:Xc.w=X.w:=by rw[<-hXc];rfl
 have hXx:Xc.xe=λ_ _=>False:=by rw[<-hXc];rfl
 have hXk:Xc.K=X.K:=by rw[<-hXc];rfl
 have hXcalm:Xc.calm=true:=by rw[<-hXc];exact hc
 have fpok:∀{pl:List (Addr×Obj)}{H':Hp},(∀p∈pl,s2.heap.objs.size<=p.1)->(∀b∈fp,H' b=none)->∀b∈fp,FpOk Xc pl H' b:=λ{pl H'} hpl hn b hb=>by
  have k1:b≠HH.objs.size:=Yl (by rw[hC];exact YS (hfl b hb))
  have k2:b∉frs X.stack:=λq=>by
   rcases Yj.mp (I2.Zei b q)with z|z
   ·exact(f2 b hb).2.1 z
   ·exact(f2 b hb).2.2.1 z
  rw[<-hXc]
  refine⟨hn b hb,k1,k2,.inl hb,λx c e=>(up _ _ e).elim (λz=>(f2 b hb).2.2.2.2.1 x c z) λz=>Nat.ne_of_gt (Nat.lt_trans (by rw[hC];exact YS (hfl b hb)) z.1),λp hp=>?_⟩
  have hp':p∈pl:=by simpa[Z2,Zlq]using hp
  exact Nat.ne_of_gt (Yt (hfl b hb) (hpl p hp'))
 have gX:PG Xc tg g:=hXc▸hg cs HH.objs.size s2 H2 fp
 have tX:Zkc Xc ifs tt:=hXc▸ht cs HH.objs.size s2 H2 fp
 have eX:PE Xc elt te:=hXc▸he cs HH.objs.size s2 H2 fp
 have hs0:Xc.s₀=s2:=by rw[<-hXc];rfl
 have hh0:Xc.H₀=H2:=by rw[<-hXc];rfl
 have hfs:Xc.fs=frs X.stack:=by rw[<-hXc];rfl
 have hex:Xc.ex=fp:=by rw[<-hXc];rfl
 have loop:codeAny (model X.prog X.w) X.A (.compLoop (.ListComp elt [⟨tg,iter,ifs,0⟩] scope pos) 0 (.ref it) (.ref s2.heap.objs.size) (compEnvC scope cs HH.objs.size X.env)) (compPost (model X.prog X.w) X.A X.xe use QQ (.ref s2.heap.objs.size) HH.objs.size)
   {s2 with heap:=h₁,toks:=s2.toks}:=by
  refine ZcD (λn s'=>∃i acc its nn H',Inv Xc [(s2.heap.objs.size,{cls:=.type "list",dict:=none,data:=.seq (its:List Value).toArray nn})] (iniC js σ) H' s'/\Vals acc its/\acc.length<=sizeLine/\tn i s'.heap/\(∀b∈fp,H' b=none)/\W i n acc H') ?_ m0
   ⟨0,[],[],0,H2,I4,.nil,Yp _,st4,λb hb=>(f2 b hb).1,w0⟩
  rintro n s3 ⟨i,acc,its,nn,H3,I3,va,hlen,st3,fr3,w3⟩
  have pg:∀p∈([(s2.heap.objs.size,{cls:=.type "list",dict:=none,data:=.seq its.toArray nn})]:List (Addr×Obj)),s2.heap.objs.size<=p.1:=λp hp=>by
   simp only[Yj,List.not_mem_nil,or_false]at hp
   subst hp;exact Yd _
  rcases turn i n acc H3 w3 with⟨stop,hl,qn⟩|⟨go,hl,step⟩
  ·have q:=T.done Xc hXp hXw hXk hXcalm i _ s3 (iniC js σ) H3 (λ_ _=>False) I3 (fpok pg fr3) st3 stop
   rw[hXA]at q
   refine thn q λr s4 ⟨hr,I5⟩=>?_
   subst hr
   have hpin:=I5.pin _ (Yo _ (.head _))
   obtain⟨m5,hn5,_⟩:=I5.loc
   rw[hXe]at hn5
   refine fin _ _ H3 H2 s2 s4 acc m5 I2 (by have:=I5.free;rw[hXe]at this;exact this) hC rfl hn5 (λh' hsb=>?_) (qn _ hpin.2.1)
   have same:∀b o,b≠HH.objs.size->s4.heap.get? b=some o->h'.get? b=some o:=λb o hb e=>hsb.extBut b o hb e
   have un:=I5.base
   rw[hfs,hex,hh0,hs0]at un
   have lt:∀b o,s2.heap.get? b=some o->b<s2.heap.objs.size:=λb o e=>Yi e
   have neC:∀b o,s2.heap.get? b=some o->b≠HH.objs.size:=λb o e=>Yl (by rw[hC];exact YS (lt b o e))
   have neD:∀b o,s2.heap.get? b=some o->b≠s2.heap.objs.size:=λb o e=>Yl (lt b o e)
   have trkC:∀b o,H3 b=some o->b≠HH.objs.size:=λb o e z=>by
    have:=I5.free;rw[hXe]at this;rw[z,show H3 HH.objs.size=none from this]at e;cases e
   refine I2.call' (s':={s4 with heap:=h'}) (ch:=fp) (I5.os.trans (by rw[hs0])) ⟨λb o e n hb hx=>same _ _ (neC b o e) (un.keep b o e n hb hx),λb o e n hb hx=>?_,λb o e n hx=>by rw[Zh (neD b o e)];exact un.free b o e n hx,λb o e hx=>?_,λb xs e=>?_,λb o u e=>?_,λb ps e=>?_⟩ (λa o e=>?_) I5.bare λb hb=>⟨(f2 b hb).2.2.2.1,(f2 b hb).2.1,(f2 b hb).2.2.2.2.1,(f2 b hb).2.2.2.2.2⟩
   ·obtain⟨sl,z⟩:=un.slot b o e n hb hx
    exact⟨sl,same _ _ (neC b o e) z⟩
   ·obtain⟨o',z⟩:=un.there b o e hx
    exact⟨o',same _ _ (neC b o e) z⟩
   ·rw[Zh (Yl (I2.hok.lt e))];exact un.tups b xs e
   ·rw[Zh (Yl (I2.hok.lt e))];exact un.frzs b o u e
   ·obtain⟨more,z⟩:=un.tbls b ps e
    exact⟨more,by rw[Zh (Yl (I2.hok.lt e))];exact z⟩
   ·by_cases ha:a=s2.heap.objs.size
    ·subst ha
     rw[Zd]at e;cases e
     exact⟨hl,its,nn,va,same _ _ hDC hpin.1⟩
    ·rw[Zh ha]at e
     have q:=I5.hok a o e
     rw[hXp,hXw]at q
     refine q.Zgg (λb u hb z=>same b u ?_ z) (λb z=>by rw[Zh];exact z;intro y;subst y;rw[hpin.2.1]at z;cases z) (λb xs z=>by rw[Zh];exact z;intro y;subst y;rw[hpin.2.1]at z;cases z) λb o u z=>by rw[Zh];exact z;intro y;subst y;rw[hpin.2.1]at z;cases z
     rcases hb with hb|hb
     ·subst hb;exact trkC _ _ e
     ·exact trkC _ _ hb
  ·have q:=T.item Xc hXp hXw hXk hXcalm i _ s3 (iniC js σ) H3 (λ_ _=>False) I3 (fpok pg fr3) st3 go
   rw[hXA]at q
   refine thn q λr s4 ⟨u,hr,h4⟩=>?_
   subst hr
   refine thn h4 λ_ s5 ⟨x,H5,I5,r5,y5,st5,fr5⟩=>?_
   have I5':=I5.pinned (fpok pg fr5) (T.obj _ _ st5)
   have again:∀{σ7:St}{H7:Hp}{s7:Shared}{acc7:List V}{its7:List Value}{n7:Nat}{m:Nat},Inv Xc ([(s2.heap.objs.size,{cls:=.type "list",dict:=none,data:=.seq its7.toArray n7})]++ZcB fp s5.heap) σ7 H7 s7->Vals acc7 its7->acc7.length<=sizeLine->W (i+1) m acc7 H7->σ7.length=(iniC js σ).length->(∀(k:Nat) v,(iniC js σ)[k]?=some (some v)->σ7[k]?=some (some v)) ->
     ∃i acc its nn H',Inv Xc [(s2.heap.objs.size,{cls:=.type "list",dict:=none,data:=.seq (its:List Value).toArray nn})] (iniC js σ) H' s7/\Vals acc its/\acc.length<=sizeLine/\tn i s7.heap/\(∀b∈fp,H' b=none)/\W i m acc H':=λ{σ7 H7 s7 acc7 its7 n7 m} I7 v7 l7 w7 hl7 hw7=>by
    refine⟨i+1,acc7,its7,n7,H7,(I7.weak hl7.symm hw7).ZcC,v7,l7,T.keep _ _ _ st5 λb hb o e=>(I7.pin (b,o) (Yo _ (Yo _ (Zb3 hb e)))).1,λb hb=>?_,w7⟩
    obtain⟨o,e,d⟩:=T.obj _ _ st5 b hb
    exact(I7.pin (b,o) (Yo _ (Yo _ (Zb3 hb e)))).2.1
   have keep:∀{σ6:St},Zlr L (iniC js σ) σ6->σ6.length=(iniC js σ).length/\∀(k:Nat) v,(iniC js σ)[k]?=some (some v)->σ6[k]?=some (some v):=λ{σ6} hk=>⟨hk.1,λk v e=>by
    rw[hk.2 k]
    ·exact e
    ·intro z
     have q:=List.all_eq_true.mp hL k z
     simp only[beq_iff_eq]at q
     unfold iniC at e
     rw[YB,q]at e
     cases e⟩
   have q6:=gX _ s5 (iniC js σ) H5 x u _ I5' r5 (ho _ _ _ _ _ (fun σ' H' kk z=>And.intro kk z) (step x H5 y5))
   rw[hXe,hXA,hXp,hXw,hXx]at q6
   refine thn q6 λ_ s6 ⟨σ6,H6,I6,k6,q6⟩=>?_
   obtain⟨kl,kv⟩:=keep k6
   have q7:=tX _ s6 σ6 H6 _ I6 q6
   rw[hXe,hXA,hXp,hXw,hXx]at q7
   refine thn q7 λb s7 ⟨H7,I7,q7⟩=>?_
   cases b with
   |false =>
    obtain⟨m',hm,w7⟩:=q7
    exact⟨m',hm,again I7 va hlen w7 kl kv⟩
   |true =>
    have q8:=eX _ s7 σ6 H7 _ I7 q7
    rw[hXe,hXA,hXp,hXw,hXx]at q8
    refine thn q8 λy s8 ⟨v8,H8,I8,r8,m',hm,w8⟩=>?_
    have pinD:=I8.pin _ (Yo _ (YN _ (.head _)))
    have hnf:∀p∈ZcB fp s5.heap,p.1≠s2.heap.objs.size:=λp hp=>by
     obtain⟨z,_⟩:=Zgv hp
     exact Yl (hfl _ z)
    have va':=va.length
    refine call_meets F.slot_list_append ⟨_,pinD.1,rfl⟩ F.entry_list_append (F.args_list_append_2 _ _) (PySem.list_append s2.heap.objs.size its.toArray nn y (by rw[Yv];omega)) ⟨pinD.1,?_⟩
    have e9:=PySem.IsL.update pinD.1 (λa=>a.push y)
    have e9':its.toArray.push y=(its++[y]).toArray:=by simp
    dsimp only at e9
    rw[e9']at e9
    have I8':Inv Xc (ZcB fp s5.heap) σ6 H8 s8:=I8.ZdO λp hp=>I8.pin p (Yo _ (Yo _ hp))
    have hXpn:Xc.pn=[]:=by rw[<-hXc];rfl
    have hXs:s2.heap.objs.size∉frs X.stack:=by rw[<-hfs];exact pinD.2.2.2.1
    have I9:=I8'.turned (t':=s8.toks) (it:=s2.heap.objs.size) (h':=s8.heap.update s2.heap.objs.size (Obj.mapSeq λa=>a.push y)) (λb o hb e=>(Heap.get?_update_other s8.heap _ (Ne.symm hb)).trans e) pinD.2.1 pinD.2.2.1
     (.inr (by rw[hs0];exact Yd _)) (λx c e=>by
      rw[hXe]at e
      intro z
      rcases up _ _ e with y|y
      ·obtain⟨v,q⟩:=I2.cell x c y
       exact absurd q.lt (by rw[z];exact YG _)
      ·have:=y.1
       rw[z,hC]at this
       exact absurd this (Nat.not_lt_of_le (Y6 _))) (λp hp=>by rw[hXpn,List.nil_append]at hp;exact hnf p hp)
    have I10:=I9.ZdO (pins':=[(s2.heap.objs.size,{cls:=.type "list",dict:=none,data:=.seq (its++[y]).toArray _})]++ZcB fp s5.heap) λp hp=>by
     rcases Ys.mp hp with z|z
     ·simp only[Yj,List.not_mem_nil,or_false]at z
      subst z
      exact⟨e9,pinD.2.1,pinD.2.2.1,pinD.2.2.2.1,by intro v z;cases z⟩
     ·exact I9.pin p (Yo _ z)
    exact⟨m',hm,again I10 (va.append (.cons r8 .nil)) (by rw[Yu,List.length_singleton];omega) w8 kl kv⟩
 exact codeAny_compStart_list loop (T.self _ 0 _ _ _ st4 loop)
theorem ZaW {tg elt iter:Expr}{ifs:List Expr}{scope:Scope}{pos:Pos}{wi:TI}{g:TG}{tt:TT}{te:TE} (Nc:List Str) (js:List (Option Nat)) {L:List Nat}
  (hc:X.calm=true) (hok:Zax X.env.scope scope=true) (htk:Zau X.N Nc scope js 0=true) (hi:PI X tg iter wi)
  (hg:∀cl C s2 H2 fp,PG (Z2 X Nc scope cl C s2 H2 fp) tg g) (ht:∀cl C s2 H2 fp,Zkc (Z2 X Nc scope cl C s2 H2 fp) ifs tt) (he:∀cl C s2 H2 fp,PE (Z2 X Nc scope cl C s2 H2 fp) elt te)
  (ho:ZjA g L) (hL:(L.all λk=>js[k]?==some none)=true:=by rfl) (hs:∀x,foldedSetIterable iter X.env x=pure x:=by intro _;rfl):PE X (.ListComp elt [⟨tg,iter,ifs,0⟩] scope pos) (ZjB wi g tt te js):=by
 intro pins s σ H Q I h
 rw[eval_ListComp]
 exact ZgJ (use:=none) hc hok htk hi hg ht he hs ho hL I h λD C H' H2 s2 s' xs m I2 hHC e1 e2 hn hI q=>⟨m,hn,λh' hsb=>⟨.ref D,_,hI h' hsb,rfl,q⟩⟩
theorem ZbZ {i:Nat}{x:Str}{pos' spos:Pos}{tg elt iter:Expr}{ifs:List Expr}{scope:Scope}{pos:Pos}{wi:TI}{g:TG}{tt:TT}{te:TE} (Nc:List Str) (js:List (Option Nat)) {L:List Nat}
  (hN:X.N.Nodup) (hxi:X.N[i]?=some x) (hx:Loc X.env.scope x)
  (hc:X.calm=true) (hok:Zax X.env.scope scope=true) (htk:Zau X.N Nc scope js 0=true) (hi:PI X tg iter wi)
  (hg:∀cl C s2 H2 fp,PG (Z2 X Nc scope cl C s2 H2 fp) tg g) (ht:∀cl C s2 H2 fp,Zkc (Z2 X Nc scope cl C s2 H2 fp) ifs tt) (he:∀cl C s2 H2 fp,PE (Z2 X Nc scope cl C s2 H2 fp) elt te)
  (ho:ZjA g L) (hL:(L.all λk=>js[k]?==some none)=true:=by rfl) (hs:∀x,foldedSetIterable iter X.env x=pure x:=by intro _;rfl)
  (hsw:swapsWith (.ListComp elt [⟨tg,iter,ifs,0⟩] scope pos) (some (.Name x pos')) spos.line X.env=pure true:=by rfl)
  (hf:X.fn x=true\/X.env.scope.names.lookup x=some .local:=by first|exact .inl rfl|exact .inr rfl|assumption) :
  PS X (.Assign [.Name x pos'] (.ListComp elt [⟨tg,iter,ifs,0⟩] scope pos) spos) (tAsg (ZjB wi g tt te js) (gName i)):=by
 intro pins s σ H D I h
 rw[exec_Assign_Name_used _ _ _ _ hsw]
 refine Ya (wpAny_standAt (Ya ?_))
 show wpAny _ _ (comprehension _ _ _ _ _ _ _ _ >>= _) _ _ _
 refine Ya (thn (Q:=λ_ s'=>∃σ' H',Inv X pins σ' H' s'/\D.nx σ' H') (ZgJ (Q:=λv H1=>gName i v σ H1 D.nx) (use:=some (assign (.Name x pos') X.env)) hc hok htk hi hg ht he hs ho hL I h ?_) λ_ s' ⟨σ',H',I',q⟩=>Ye (Ye ⟨σ',H',I',q⟩))
 intro D' C H' H2 s2 s' xs m I2 hHC e1 e2 hn hI q
 obtain⟨oC,es,ep,hoC,hdC,hrest⟩:=id hn
 have leC:s2.heap.objs.size<=C:=by rw[e1,e2];exact Y6 _
 have ltC:s2.heap.objs.size<C:=by rw[e1,e2];exact Nat.lt_succ_self _
 have neDC:C≠D':=by rw[e2];exact Nat.ne_of_gt ltC
 have fresh:s2.heap.get? C=none:=by
  cases e:s2.heap.get? C with
  |none=>rfl
  |some o=>exact absurd (Yt (Yi e) leC) (YG _)
 have neL:C≠X.env.locals:=Nat.ne_of_gt (Yt I2.lt leC)
 have nfs:C∉X.fs:=I2.nofs leC
 have ncl:∀x c,X.env.cells.lookup x=some c->c≠C:=λx c e z=>by
  obtain⟨v,q⟩:=I2.cell x c e
  exact absurd (Yt q.lt leC) (by rw[z];exact YG _)
 have npn:∀p∈X.pn++pins,p.1≠C:=λp hp z=>by
  have:=(I2.pin p hp).1
  rw[z,fresh]at this;cases this
 have hH:(upd H' D' (HO.lst xs)) C=none:=by rw[Zh neDC];exact hHC
 have I0:=hI s'.heap Zhi
 have I1:Inv X (pins++[(C,oC)]) σ (upd H' D' (.lst xs)) s':=I0.ZdO λp hp=>by
  rcases Ys.mp hp with z|z
  ·exact I0.pin p (Yo _ z)
  ·simp only[Yj,List.not_mem_nil,or_false]at z
   subst z
   exact⟨hoC,hH,neL,nfs,λv z=>by rw[hdC]at z;cases z⟩
 show wpAny _ _ _ _ _ _
 refine thn (Zq (X:=X) (i:=i) hN hxi hx hf (pins++[(C,oC)]) s' σ _ (.ref D') (.ref D') _ I1 rfl q) λ_ s3 ⟨σ3,H3,I3,q3⟩=>?_
 have pC:=I3.pin (C,oC) (Yo _ (Yo _ (.head _)))
 refine⟨m,⟨oC,es,ep,pC.1,hdC,hrest⟩,λh' hsb=>⟨σ3,H3,?_,q3⟩⟩
 exact I3.ZcC.turned (t':=s3.toks) (it:=C) (λb o hb e=>hsb.extBut b o hb e) pC.2.1 neL (.inr (Yn I2.sz leC)) ncl npn
end
end L2
namespace L2
open PySem PySem.Spec PyProof.Rows PySem.W
noncomputable def CF (n:Nat) (P:Nat->Bool) (vals:Nat->V) (H1:Hp) (i m:Nat) (acc:List V) (H:Hp):Prop:=m=n-i/\i<=n/\acc=((List.range i).filter P).map vals/\Zf H1 H
theorem CF.take {n:Nat}{P:Nat->Bool}{vals:Nat->V}{H1 H:Hp}{i:Nat}{v:V} (hi:i<n) (hP:P i=true) (hv:v=vals i) (s:Zf H1 H):∃m',m'<n-i/\CF n P vals H1 (i+1) m' (((List.range i).filter P).map vals++[v]) H :=
 ⟨n-(i+1),by omega,rfl,hi,by rw[YR,List.filter_append,Y8,hv];simp[hP],s⟩
theorem CF.skip {n:Nat}{P:Nat->Bool}{vals:Nat->V}{H1 H:Hp}{i:Nat} (hi:i<n) (hP:P i=false) (s:Zf H1 H):∃m',m'<n-i/\CF n P vals H1 (i+1) m' (((List.range i).filter P).map vals) H :=
 ⟨n-(i+1),by omega,rfl,hi,by rw[YR,List.filter_append,Y8];simp[hP],s⟩
theorem Zko {J:It}{n:Nat}{H1:Hp}{g:TG}{tt:TT}{te:TE}{σ0:St}{Q:VK} (P:Nat->Bool) (vals:Nat->V) (hn:n<sizeLine) (hgo:∀i H,Zf H1 H->i<n->J.go i H) (hstop:∀H,Zf H1 H->J.stop n H)
  (hb:∀i x H H',i<n->Zf H1 H->J.yld i H x H'->g x σ0 H' fun σ2 H2=>tt σ2 H2 λb H3=>if b=true then te σ2 H3 λv H4=>∃m',m'<n-i/\CF n P vals H1 (i+1) m' (((List.range i).filter P).map vals++[v]) H4 else ∃m',m'<n-i/\CF n P vals H1 (i+1) m' (((List.range i).filter P).map vals) H3)
  (hk:∀l H',Zf H1 H'->H' l=none->Q (.ref l) (upd H' l (.lst (((List.range n).filter P).map vals)))) :
  ZhU J g tt te σ0 Q H1:=by
 refine⟨CF n P vals H1,⟨n,rfl,Yp _,rfl,Zf.refl _⟩,?_⟩
 rintro i m acc H ⟨rfl,hi,rfl,s⟩
 have hlen:(((List.range i).filter P).map vals).length<=n:=by
  rw[Yh]
  have:=List.length_filter_le P (List.range i)
  rw[Y0]at this
  omega
 by_cases h:i<n
 ·exact .inr ⟨hgo i H s h,by omega,λx H' y=>hb i x H H' h s y⟩
 ·have:i=n:=by omega
  subst this
  exact .inl ⟨hstop H s,by omega,λp hp=>hk p H s hp⟩
theorem Zfh {ns T:List Int} (hT:Zp ns T) {p o:Nat} (hp:p<ns.length):(o:Int)∈Zcz T p↔o<ns.length/\Over (nth ns) o p:=by
 rw[<-(ZdV hT T.length p hp (by rw[hT.1];exact YX (ZiX hp))).1 o]
 unfold Zcz
 rw[YD]
 refine⟨λ⟨q,hq,e⟩=>?_,λh=>⟨o,h,rfl⟩⟩
 have:q=o:=by omega
 rw[<-this];exact hq
end L2
namespace HT
open PySem PyProof.Rows
section
open PySem.SeqAt
open PySem.AutoSeq1 (wpAny_loadPart')
open PySem.MeetsSeq PySem.MeetsSeq2 PySem.MeetsSeq3
variable {prog:Program}{w:World}{A:Around}{E:Value->Shared->Prop}{s:Shared}
end
end HT
namespace L2
open PySem PySem.Spec PyProof.Rows PySem.W
section
variable {X:Cx}{tg l:Expr}{tl:TE}
theorem ZmW {K:Frag} (hK:X.K=K) (hl:PE X l tl):PI X tg l (iTup K tl):=hK▸Zlg hl
end
noncomputable def way (T:List Int) (p:Nat):List Nat:=Zab T T.length (nth T p)
theorem Zh6 (T:List Int) (p:Nat):Zcz T p=(way T p).map λq=>((q:Nat):Int):=rfl
theorem Zh7 {ns T:List Int} (hT:Zp ns T) {p o:Nat} (hp:p<ns.length):o∈way T p↔o<ns.length/\Over (nth ns) o p:=by
 unfold way
 rw[hT.1]
 exact(ZdV hT ns.length p hp (YX (ZiX hp))).1 o
section
variable {X:Cx}{pins:List (Addr×Obj)}{σ:St}{H:Hp}{s:Shared}{h':Heap}
theorem Inv.ZmX {t':Nat}{fp:List Addr}{T:Addr}{o:HO} (I:Inv X pins σ H s) (k:∀b u,b∉fp->s.heap.get? b=some u->h'.get? b=some u) (hf:∀b∈fp,FpOk X pins H b) (hT:s.heap.objs.size<=T) (new:ZX X.prog X.w (upd H T o) h' T o) :
  Inv X pins σ (upd H T o) {s with heap:=h',toks:=t'}:=by
 have nit:∀b u,H b=some u->b∉fp:=λb u e z=>by rw[(hf b z).1]at e;cases e
 have hfr:H T=none:=I.hok.fresh hT
 have neT:∀b u,s.heap.get? b=some u->b≠T:=λb u e z=>absurd (Yi e) (by rw[z];exact Nat.not_lt_of_le hT)
 have neH:∀b u,H b=some u->b≠T:=λb u e z=>by rw[z,hfr]at e;cases e
 refine I.step (g':=s.gens) (d':=s.drawn) (ch:=fp) (λb hb=>?_) (λb o _ _ hc e _=>k b o hc e) (λb o _ _ hc e _=>⟨o.slots,k b o hc e⟩) (λb u _ e n=>by rw[Zh (neT b u e)];exact n)
  (λb o hc e=>⟨o,k b o hc e⟩) (λb xs e=>by rw[Zh (neH b _ e)];exact e) (λb o u e=>by rw[Zh (neH b _ e)];exact e) (λb ps e=>⟨#[],by rw[Zh (neH b _ e),e];simp⟩) (λm hm=>?_) (λb u e=>?_) I.bare
 ·obtain⟨_,f1,_,f3,f4,f5⟩:=hf b hb
  exact⟨f3,f1,f4,f5⟩
 ·obtain⟨o,es,ep,ho,r⟩:=hm
  exact⟨o,es,ep,k _ o (λz=>(hf _ z).2.1 rfl) ho,r⟩
 ·by_cases z:b=T
  ·subst z
   rw[Zd]at e;cases e
   exact new
  ·rw[Zh z]at e
   refine(I.hok b u e).Zgg (λc v hc q=>k c v ?_ q) (λc q=>?_) (λc xs q=>?_) λc o u q=>?_
   ·rcases hc with y|y
    ·rw[y];exact nit b u e
    ·exact nit c _ y
   ·rw[Zh (neH _ _ q)];exact q
   ·rw[Zh (neH _ _ q)];exact q
   ·rw[Zh (neH _ _ q)];exact q
theorem Zi0:bootBuiltins "enumerate"=some (.type "enumerate"):=by decide +kernel
end
theorem Zkp {prog:Program}{w:World}{A:Around}{R:Result->Shared->Prop}{I:Addr}{fp wr:List Addr}{n:Nat}{P:Nat->Value->Prop}{St:Nat->Heap->Prop} (W:Walks prog w A.in1 I fp wr n P St) (bt:Nat->Nat->Bool) (hc:CmpOf prog w A.in1 .Gt P bt)
  (S:Addr) (hS:S∉fp) (dk:Str) (d:Value) (h0:Heap) (s0:Shared)
  (hR0:n=0->∀h' tk,(∀b o,b∉wr->b≠S->h0.get? b=some o->h'.get? b=some o)->R (.ok (.ret d)) {s0 with heap:=h',toks:=tk})
  (hR:0<n->∀v h' tk,P (argBest bt (n-1)) v->(∀b o,b∉wr->b≠S->h0.get? b=some o->h'.get? b=some o)->R (.ok (.ret v)) {s0 with heap:=h',toks:=tk}) :
  ∀(k j:Nat) (h:Heap) (tk:Nat),n-j=k->j<=n->St j h->(∀b o,b∉wr->b≠S->h0.get? b=some o->h.get? b=some o) ->
   ((j=0/\∃c,h.get? S=some {cls:=.type "list",data:=.seq #[] c})\/(0<j/\∃vb c,P (argBest bt (j-1)) vb/\h.get? S=some {cls:=.type "list",data:=.seq #[vb,vb] c})) ->
   codeAny (model prog w) A (.builtin "max.loop" {pos:=[.ref I,.none,.ref S],kw:=[(dk,d)]}) R {s0 with heap:=h,toks:=tk}:=by
 intro k
 induction k with
 |zero =>
  intro j h tk hk hj hst keep hb
  refine codeAny_builtin F.entry_max_loop ?_
  have hjn:j=n:=by omega
  subst hjn
  rcases hb with⟨hj0,c,hb⟩|⟨hj0,vb,c,hvb,hb⟩
  ·show wpAny _ _ (_ >>= _) _ _ _
   refine Ya (wpAny_seqItems hb rfl ?_)
   refine Ya (wpAny_tryCatch (W.done _ _ _ hst λh' tk' kp=>?_))
   refine Ya (wpAny_rule (Ye ?_))
   exact hR0 hj0 h' tk' λb o hb1 hb2 e=>kp b o hb1 (keep b o hb1 hb2 e)
  ·show wpAny _ _ (_ >>= _) _ _ _
   refine Ya (wpAny_seqItems hb rfl ?_)
   refine Ya (wpAny_tryCatch (W.done _ _ _ hst λh' tk' kp=>?_))
   have hS':S∉wr:=λz=>hS (W.sub S z)
   have hb':=kp S _ hS' hb
   refine Ya (wpAny_updateSeq hb' rfl ?_ (show 2<=sizeLine by decide) (Yp _))
   refine Ya (wpAny_letGo (Ye ?_))
   refine hR hj0 vb _ tk' hvb λb o hb1 hb2 e=>?_
   exact(Heap.get?_update_other _ _ (Ne.symm hb2)).trans (kp b o hb1 (keep b o hb1 hb2 e))
 |succ k ih =>
  intro j h tk hk hj hst keep hb
  refine codeAny_builtin F.entry_max_loop ?_
  have hjn:j<n:=by omega
  have hS':S∉wr:=λz=>hS (W.sub S z)
  rcases hb with⟨hj0,c,hb⟩|⟨hj0,vb,c,hvb,hb⟩
  ·show wpAny _ _ (_ >>= _) _ _ _
   refine Ya (wpAny_seqItems hb rfl ?_)
   refine Ya (wpAny_tryCatch (W.item j _ _ _ hjn hst λv h' tk' hv hst' kp=>?_))
   have hb':=kp S _ hS' hb
   refine Ya (Ye ?_)
   refine Ya (wpAny_updateSeq hb' rfl ?_ (Yp _) (show 2<=sizeLine+1 by decide))
   refine Ye ⟨rfl,?_⟩
   have e9:=PySem.IsL.update hb' (λ_=>#[v,v])
   refine ih (j+1) _ tk' (by omega) (by omega) (W.frame _ _ _ hst' λb hb1 o e=>?_) (λb o hb1 hb2 e=>?_) (.inr ⟨by omega,v,_,?_,e9⟩)
   ·exact(Heap.get?_update_other _ _ (show S≠b from λz=>hS (by rw[z];exact hb1))).trans e
   ·exact(Heap.get?_update_other _ _ (Ne.symm hb2)).trans (kp b o hb1 (keep b o hb1 hb2 e))
   ·rw[hj0];rw[hj0]at hv;exact hv
  ·show wpAny _ _ (_ >>= _) _ _ _
   refine Ya (wpAny_seqItems hb rfl ?_)
   refine Ya (wpAny_tryCatch (W.item j _ _ _ hjn hst λv h' tk' hv hst' kp=>?_))
   have hb':=kp S _ hS' hb
   obtain⟨j',rfl⟩:∃j',j=j'+1:=⟨j-1,by omega⟩
   have hvb':P (argBest bt j') vb:=hvb
   have eA:argBest bt (j'+1)=if bt (j'+1) (argBest bt j')=true then j'+1 else argBest bt j':=rfl
   refine Ya (Ye ?_)
   refine Ya (wpAny_tryCatch (YH (Ya (hc (j'+1) (argBest bt j') v vb _ _ _ hv hvb' (Ya (YH (wpAny_truthy_bool (Ya (wpAny_letGo (Ye ?_))))))))))
   by_cases z:bt (j'+1) (argBest bt j')=true
   ·rw[Yc z]
    refine Ya (wpAny_updateSeq hb' rfl ?_ (show 2<=sizeLine by decide) (show 2<=sizeLine+1 by decide))
    refine Ya (wpAny_letGo (Ye ⟨rfl,?_⟩))
    have e9:=PySem.IsL.update hb' (λ_=>#[v,v])
    refine ih (j'+1+1) _ tk' (by omega) (by omega) (W.frame _ _ _ hst' λb hb1 o e=>?_) (λb o hb1 hb2 e=>?_) (.inr ⟨by omega,v,_,?_,e9⟩)
    ·exact(Heap.get?_update_other _ _ (show S≠b from λz=>hS (by rw[z];exact hb1))).trans e
    ·exact(Heap.get?_update_other _ _ (Ne.symm hb2)).trans (kp b o hb1 (keep b o hb1 hb2 e))
    ·show P (argBest bt (j'+1)) v
     rw[eA,Yc z];exact hv
   ·rw[Yb z]
    refine Ya (wpAny_letGo (Ye ⟨rfl,?_⟩))
    refine ih (j'+1+1) _ tk' (by omega) (by omega) hst' (λb o hb1 hb2 e=>kp b o hb1 (keep b o hb1 hb2 e)) (.inr ⟨by omega,vb,_,?_,hb'⟩)
    show P (argBest bt (j'+1)) vb
    rw[eA,Yb z];exact hvb'
theorem Zkq (a d:Value):argsOk "max" {pos:=[a],kw:=[("default",d)]}:=by first|rfl|decide
theorem Zkr {prog:Program}{w:World}{A:Around}{E Q:Value->Shared->Prop}{s:Shared}{l:Addr}{xs:Array (Int×Tok)}{d:Value} (hA:A.handled=none) (hl:s.heap.IsList l (intItems xs))
  (q0:xs.size=0->∀h' tk,(∀b o,s.heap.get? b=some o->h'.get? b=some o)->Q d {s with heap:=h',toks:=tk})
  (q1:0<xs.size->∀v h' tk,(intItems xs)[argBest (λi j=>decide (numAt xs i>numAt xs j)) (xs.size-1)]?=some v->(∀b o,s.heap.get? b=some o->h'.get? b=some o)->Q v {s with heap:=h',toks:=tk}) :
  wpAny (model prog w) A (call (.builtin "max") [.ref l] [("default",d)]) Q E s:=by
 refine wpAny_call (codeAny_call_builtin_code rfl ?_)
 have hck:checkBuiltinCall "max" {pos:=[.ref l],kw:=[("default",d)]}=pure ():=by
  unfold checkBuiltinCall
  rw[F.kind_max]
  exact Zkq (.ref l) d
 rw[hck]
 refine Ye (codeAny_builtin F.entry_max ?_)
 show wpAny _ _ (_ >>= _) _ _ _
 have hbp:Builtin.Builtins.bindParams "max" ["key","default"] 0 {kw:=[("default",d)]}=pure [none,some d]:=by
  first|rfl|with_unfolding_all rfl|(simp[Builtin.Builtins.bindParams];done)
 refine Ya (wpAny_of_eq hbp (Ya (Ye (Ya (wpAny_pyIter_list hl ?_)))))
 refine Ya (wpAny_newObj_type ?_)
 refine Ye ⟨rfl,?_⟩
 have hlt:l<s.heap.objs.size:=by obtain⟨o,e,_⟩:=hl;exact Yi e
 have n1:l≠s.heap.objs.size:=Yl hlt
 have esz:(s.heap.push {cls:=.type "list_iterator",data:=.fields #[.ref l,.int 0 0]}).objs.size=s.heap.objs.size+1:=Heap.size_push _ _
 have old:∀b o,s.heap.get? b=some o->((s.heap.push {cls:=.type "list_iterator",data:=.fields #[.ref l,.int 0 0]}).push {cls:=.type "list",data:=.seq #[]}).get? b=some o:=λb o e=>Ym _ (Ym _ e)
 have ne:∀b o,s.heap.get? b=some o->b∉[s.heap.objs.size]/\b≠(s.heap.push {cls:=.type "list_iterator",data:=.fields #[.ref l,.int 0 0]}).objs.size:=λb o e=>by
  have:=Yi e
  refine⟨λz=>?_,λz=>?_⟩
  ·have:b=s.heap.objs.size:=by simpa using z
   exact absurd (Yi e) (by rw[this];exact YG _)
  ·rw[z,esz]at this
   exact absurd this (Nat.not_lt_of_le (Y6 _))
 have W:=Walks.list (prog:=prog) (w:=w) (A:=A.in1) hA s.heap.objs.size l n1 (intItems xs)
 have hitm:(intItems xs).size=xs.size:=by simp[intItems]
 refine Zkp W (λi j=>decide (numAt xs i>numAt xs j)) (CmpOf.ints_gt (numAt xs) λi v h=>intItems_at h) _ ?_ "default" d _ s (λz h' tk kp=>?_) (λz v h' tk hv kp=>?_) (intItems xs).size 0 _ _ rfl (Yp _) ⟨?_,?_⟩ (λb o _ _ e=>e) (.inl ⟨rfl,_,Yy _ rfl⟩)
 ·rw[esz]
  simp only[Yj,List.not_mem_nil,or_false,not_or]
  exact⟨Nat.ne_of_gt (Nat.lt_succ_self _),Nat.ne_of_gt (YS hlt)⟩
 ·exact q0 (by omega) h' tk λb o e=>kp b o (ne b o e).1 (ne b o e).2 (old b o e)
 ·exact q1 (by omega) v h' tk (by rw[<-hitm];exact hv) λb o e=>kp b o (ne b o e).1 (ne b o e).2 (old b o e)
 ·exact⟨_,Ym _ (Yy _ rfl),rfl,rfl⟩
 ·obtain⟨o,e,r⟩:=hl
  exact⟨o,old _ _ e,r⟩
theorem Zks {prog:Program}{w:World}{A:Around}{R:Result->Shared->Prop}{I:Addr}{fp wr:List Addr}{n:Nat}{P:Nat->Value->Prop}{St:Nat->Heap->Prop} (W:Walks prog w A.in1 I fp wr n P St) (bt:Nat->Nat->Bool) (hc:CmpOf prog w A.in1 .Lt P bt)
  (S:Addr) (hS:S∉fp) (dk:Str) (d:Value) (h0:Heap) (s0:Shared)
  (hR0:n=0->∀h' tk,(∀b o,b∉wr->b≠S->h0.get? b=some o->h'.get? b=some o)->R (.ok (.ret d)) {s0 with heap:=h',toks:=tk})
  (hR:0<n->∀v h' tk,P (argBest bt (n-1)) v->(∀b o,b∉wr->b≠S->h0.get? b=some o->h'.get? b=some o)->R (.ok (.ret v)) {s0 with heap:=h',toks:=tk}) :
  ∀(k j:Nat) (h:Heap) (tk:Nat),n-j=k->j<=n->St j h->(∀b o,b∉wr->b≠S->h0.get? b=some o->h.get? b=some o) ->
   ((j=0/\∃c,h.get? S=some {cls:=.type "list",data:=.seq #[] c})\/(0<j/\∃vb c,P (argBest bt (j-1)) vb/\h.get? S=some {cls:=.type "list",data:=.seq #[vb,vb] c})) ->
   codeAny (model prog w) A (.builtin "min.loop" {pos:=[.ref I,.none,.ref S],kw:=[(dk,d)]}) R {s0 with heap:=h,toks:=tk}:=by
 intro k
 induction k with
 |zero =>
  intro j h tk hk hj hst keep hb
  refine codeAny_builtin F.entry_min_loop ?_
  have hjn:j=n:=by omega
  subst hjn
  rcases hb with⟨hj0,c,hb⟩|⟨hj0,vb,c,hvb,hb⟩
  ·show wpAny _ _ (_ >>= _) _ _ _
   refine Ya (wpAny_seqItems hb rfl ?_)
   refine Ya (wpAny_tryCatch (W.done _ _ _ hst λh' tk' kp=>?_))
   refine Ya (wpAny_rule (Ye ?_))
   exact hR0 hj0 h' tk' λb o hb1 hb2 e=>kp b o hb1 (keep b o hb1 hb2 e)
  ·show wpAny _ _ (_ >>= _) _ _ _
   refine Ya (wpAny_seqItems hb rfl ?_)
   refine Ya (wpAny_tryCatch (W.done _ _ _ hst λh' tk' kp=>?_))
   have hS':S∉wr:=λz=>hS (W.sub S z)
   have hb':=kp S _ hS' hb
   refine Ya (wpAny_updateSeq hb' rfl ?_ (show 2<=sizeLine by decide) (Yp _))
   refine Ya (wpAny_letGo (Ye ?_))
   refine hR hj0 vb _ tk' hvb λb o hb1 hb2 e=>?_
   exact(Heap.get?_update_other _ _ (Ne.symm hb2)).trans (kp b o hb1 (keep b o hb1 hb2 e))
 |succ k ih =>
  intro j h tk hk hj hst keep hb
  refine codeAny_builtin F.entry_min_loop ?_
  have hjn:j<n:=by omega
  have hS':S∉wr:=λz=>hS (W.sub S z)
  rcases hb with⟨hj0,c,hb⟩|⟨hj0,vb,c,hvb,hb⟩
  ·show wpAny _ _ (_ >>= _) _ _ _
   refine Ya (wpAny_seqItems hb rfl ?_)
   refine Ya (wpAny_tryCatch (W.item j _ _ _ hjn hst λv h' tk' hv hst' kp=>?_))
   have hb':=kp S _ hS' hb
   refine Ya (Ye ?_)
   refine Ya (wpAny_updateSeq hb' rfl ?_ (Yp _) (show 2<=sizeLine+1 by decide))
   refine Ye ⟨rfl,?_⟩
   have e9:=PySem.IsL.update hb' (λ_=>#[v,v])
   refine ih (j+1) _ tk' (by omega) (by omega) (W.frame _ _ _ hst' λb hb1 o e=>?_) (λb o hb1 hb2 e=>?_) (.inr ⟨by omega,v,_,?_,e9⟩)
   ·exact(Heap.get?_update_other _ _ (show S≠b from λz=>hS (by rw[z];exact hb1))).trans e
   ·exact(Heap.get?_update_other _ _ (Ne.symm hb2)).trans (kp b o hb1 (keep b o hb1 hb2 e))
   ·rw[hj0];rw[hj0]at hv;exact hv
  ·show wpAny _ _ (_ >>= _) _ _ _
   refine Ya (wpAny_seqItems hb rfl ?_)
   refine Ya (wpAny_tryCatch (W.item j _ _ _ hjn hst λv h' tk' hv hst' kp=>?_))
   have hb':=kp S _ hS' hb
   obtain⟨j',rfl⟩:∃j',j=j'+1:=⟨j-1,by omega⟩
   have hvb':P (argBest bt j') vb:=hvb
   have eA:argBest bt (j'+1)=if bt (j'+1) (argBest bt j')=true then j'+1 else argBest bt j':=rfl
   refine Ya (Ye ?_)
   refine Ya (wpAny_tryCatch (YH (Ya (hc (j'+1) (argBest bt j') v vb _ _ _ hv hvb' (Ya (YH (wpAny_truthy_bool (Ya (wpAny_letGo (Ye ?_))))))))))
   by_cases z:bt (j'+1) (argBest bt j')=true
   ·rw[Yc z]
    refine Ya (wpAny_updateSeq hb' rfl ?_ (show 2<=sizeLine by decide) (show 2<=sizeLine+1 by decide))
    refine Ya (wpAny_letGo (Ye ⟨rfl,?_⟩))
    have e9:=PySem.IsL.update hb' (λ_=>#[v,v])
    refine ih (j'+1+1) _ tk' (by omega) (by omega) (W.frame _ _ _ hst' λb hb1 o e=>?_) (λb o hb1 hb2 e=>?_) (.inr ⟨by omega,v,_,?_,e9⟩)
    ·exact(Heap.get?_update_other _ _ (show S≠b from λz=>hS (by rw[z];exact hb1))).trans e
    ·exact(Heap.get?_update_other _ _ (Ne.symm hb2)).trans (kp b o hb1 (keep b o hb1 hb2 e))
    ·show P (argBest bt (j'+1)) v
     rw[eA,Yc z];exact hv
   ·rw[Yb z]
    refine Ya (wpAny_letGo (Ye ⟨rfl,?_⟩))
    refine ih (j'+1+1) _ tk' (by omega) (by omega) hst' (λb o hb1 hb2 e=>kp b o hb1 (keep b o hb1 hb2 e)) (.inr ⟨by omega,vb,_,?_,hb'⟩)
    show P (argBest bt (j'+1)) vb
    rw[eA,Yb z];exact hvb'
theorem Zkt (a d:Value):argsOk "min" {pos:=[a],kw:=[("default",d)]}:=by first|rfl|decide
theorem Zku {prog:Program}{w:World}{A:Around}{E Q:Value->Shared->Prop}{s:Shared}{l:Addr}{xs:Array (Int×Tok)}{d:Value} (hA:A.handled=none) (hl:s.heap.IsList l (intItems xs))
  (q0:xs.size=0->∀h' tk,(∀b o,s.heap.get? b=some o->h'.get? b=some o)->Q d {s with heap:=h',toks:=tk})
  (q1:0<xs.size->∀v h' tk,(intItems xs)[argBest (λi j=>decide (numAt xs i<numAt xs j)) (xs.size-1)]?=some v->(∀b o,s.heap.get? b=some o->h'.get? b=some o)->Q v {s with heap:=h',toks:=tk}) :
  wpAny (model prog w) A (call (.builtin "min") [.ref l] [("default",d)]) Q E s:=by
 refine wpAny_call (codeAny_call_builtin_code rfl ?_)
 have hck:checkBuiltinCall "min" {pos:=[.ref l],kw:=[("default",d)]}=pure ():=by
  unfold checkBuiltinCall
  rw[F.kind_min]
  exact Zkt (.ref l) d
 rw[hck]
 refine Ye (codeAny_builtin F.entry_min ?_)
 show wpAny _ _ (_ >>= _) _ _ _
 have hbp:Builtin.Builtins.bindParams "min" ["key","default"] 0 {kw:=[("default",d)]}=pure [none,some d]:=by
  first|rfl|with_unfolding_all rfl|(simp[Builtin.Builtins.bindParams];done)
 refine Ya (wpAny_of_eq hbp (Ya (Ye (Ya (wpAny_pyIter_list hl ?_)))))
 refine Ya (wpAny_newObj_type ?_)
 refine Ye ⟨rfl,?_⟩
 have hlt:l<s.heap.objs.size:=by obtain⟨o,e,_⟩:=hl;exact Yi e
 have n1:l≠s.heap.objs.size:=Yl hlt
 have esz:(s.heap.push {cls:=.type "list_iterator",data:=.fields #[.ref l,.int 0 0]}).objs.size=s.heap.objs.size+1:=Heap.size_push _ _
 have old:∀b o,s.heap.get? b=some o->((s.heap.push {cls:=.type "list_iterator",data:=.fields #[.ref l,.int 0 0]}).push {cls:=.type "list",data:=.seq #[]}).get? b=some o:=λb o e=>Ym _ (Ym _ e)
 have ne:∀b o,s.heap.get? b=some o->b∉[s.heap.objs.size]/\b≠(s.heap.push {cls:=.type "list_iterator",data:=.fields #[.ref l,.int 0 0]}).objs.size:=λb o e=>by
  have:=Yi e
  refine⟨λz=>?_,λz=>?_⟩
  ·have:b=s.heap.objs.size:=by simpa using z
   exact absurd (Yi e) (by rw[this];exact YG _)
  ·rw[z,esz]at this
   exact absurd this (Nat.not_lt_of_le (Y6 _))
 have W:=Walks.list (prog:=prog) (w:=w) (A:=A.in1) hA s.heap.objs.size l n1 (intItems xs)
 have hitm:(intItems xs).size=xs.size:=by simp[intItems]
 refine Zks W (λi j=>decide (numAt xs i<numAt xs j)) (CmpOf.ints_lt (numAt xs) λi v h=>intItems_at h) _ ?_ "default" d _ s (λz h' tk kp=>?_) (λz v h' tk hv kp=>?_) (intItems xs).size 0 _ _ rfl (Yp _) ⟨?_,?_⟩ (λb o _ _ e=>e) (.inl ⟨rfl,_,Yy _ rfl⟩)
 ·rw[esz]
  simp only[Yj,List.not_mem_nil,or_false,not_or]
  exact⟨Nat.ne_of_gt (Nat.lt_succ_self _),Nat.ne_of_gt (YS hlt)⟩
 ·exact q0 (by omega) h' tk λb o e=>kp b o (ne b o e).1 (ne b o e).2 (old b o e)
 ·exact q1 (by omega) v h' tk (by rw[<-hitm];exact hv) λb o e=>kp b o (ne b o e).1 (ne b o e).2 (old b o e)
 ·exact⟨_,Ym _ (Yy _ rfl),rfl,rfl⟩
 ·obtain⟨o,e,r⟩:=hl
  exact⟨o,old _ _ e,r⟩
section
variable {X:Cx}
noncomputable def tMaxD (K:Frag) (ta td:TA):TE:=fun σ H Q=>ta σ H λvs H1=>td σ H1 λzs H2=>∃(p:Addr) (ns:List Int) (d:Int),vs=[.ref p]/\zs=[.int d]/\SqL K H2 p (ns.map V.int)/\(ns=[]->Q (.int d) H2)/\(ns≠[]->∀m,m∈ns->(∀a∈ns,a<=m)->Q (.int m) H2)
theorem ZmY {K:Frag}{e:Expr}{kws:List Keyword}{ta td:TA}{p pos:Pos} (hK:X.K=K) (hc:X.calm=true) (hg:Gl X "max") (hm:X.mg "max"=none) (ha:PA X [e] ta) (hd:PK X kws td)
  (he:starEach [e] X.env=(false,eval e X.env)::starEach [] X.env:=by rfl) (hpl:(backTo pos (starEach [e] X.env)).any (·.1)=false:=by rfl) (hall:(backToKw pos (keywordEach kws X.env)).all (·.1.isSome)=true:=by rfl)
  (hnn:(backToKw pos (keywordEach kws X.env)).any (·.1.isNone)=false:=by rfl) (hks:(backToKw pos (keywordEach kws X.env)).filterMap (·.1)=[(("default":String):Str)]:=by rfl) (hb:backTo pos (starEach [e] X.env)=(false,eval e X.env)::backTo pos (starEach [] X.env):=by rfl) :
  PE X (.Call (.Name "max" p) [e] kws pos) (tMaxD K ta td):=by
 subst hK
 intro pins s σ H Q I h
 refine wpAny_Call_Name_kw (Zdq I hg hm Zlv ?_)
 refine PyProof.Rows.callWith_kw (thn (ha pos pins s σ H _ I h) λus s1 ⟨vs,H1,I1,r1,q1⟩=>?_) hb hpl hall hnn
 refine thn (hd pos pins s1 σ H1 _ I1 q1) λws s2 ⟨zs,H2,I2,r2,pp,ns,d,e1,e2,hp,q0,qm⟩=>?_
 subst e1 e2
 obtain⟨u,rfl,ru⟩:=r1.one
 obtain⟨v,rfl,rv⟩:=r2.one
 cases(show u=Value.ref pp from ru)
 rw[hks]
 obtain⟨its,rr,pl,hz⟩:=I2.list hp
 obtain⟨ys,e1,e2⟩:=ZdS rr
 have hsz:ys.size=ns.length:=by
  have:=congrArg List.length e2
  rw[Yh,Yk]at this
  exact this
 refine Zkr (xs:=ys) (I2.ok.hd hc) (e1▸pl.isList) (λz h' tk k=>?_) (λz v' h' tk hv k=>?_)
 ·exact⟨.int d,H2,I2.kept k,rv,q0 (List.length_eq_zero_iff.mp (by omega))⟩
 ·obtain⟨t,rfl⟩:=intItems_at hv
  obtain⟨h1,h2⟩:=argBest_gt (numAt ys) (ys.size-1)
  refine⟨.int _,H2,I2.kept k,⟨t,rfl⟩,qm (λy=>by have h3:ys.size=0:=(by rw[hsz,y];rfl);omega) _ ?_ λa ha=>?_⟩
  ·rw[numAt_eq,e2];exact getD_mem (by omega)
  ·obtain⟨j,hj,rfl⟩:=mem_getD ha
   rw[<-e2,<-numAt_eq];exact h2 j (by omega)
end
section
variable {X:Cx}
noncomputable def tMinD (K:Frag) (ta td:TA):TE:=fun σ H Q=>ta σ H λvs H1=>td σ H1 λzs H2=>∃(p:Addr) (ns:List Int) (d:Int),vs=[.ref p]/\zs=[.int d]/\SqL K H2 p (ns.map V.int)/\(ns=[]->Q (.int d) H2)/\(ns≠[]->∀m,m∈ns->(∀a∈ns,m<=a)->Q (.int m) H2)
theorem ZmZ {K:Frag}{e:Expr}{kws:List Keyword}{ta td:TA}{p pos:Pos} (hK:X.K=K) (hc:X.calm=true) (hg:Gl X "min") (hm:X.mg "min"=none) (ha:PA X [e] ta) (hd:PK X kws td)
  (he:starEach [e] X.env=(false,eval e X.env)::starEach [] X.env:=by rfl) (hpl:(backTo pos (starEach [e] X.env)).any (·.1)=false:=by rfl) (hall:(backToKw pos (keywordEach kws X.env)).all (·.1.isSome)=true:=by rfl)
  (hnn:(backToKw pos (keywordEach kws X.env)).any (·.1.isNone)=false:=by rfl) (hks:(backToKw pos (keywordEach kws X.env)).filterMap (·.1)=[(("default":String):Str)]:=by rfl) (hb:backTo pos (starEach [e] X.env)=(false,eval e X.env)::backTo pos (starEach [] X.env):=by rfl) :
  PE X (.Call (.Name "min" p) [e] kws pos) (tMinD K ta td):=by
 subst hK
 intro pins s σ H Q I h
 refine wpAny_Call_Name_kw (Zdq I hg hm Zlw ?_)
 refine PyProof.Rows.callWith_kw (thn (ha pos pins s σ H _ I h) λus s1 ⟨vs,H1,I1,r1,q1⟩=>?_) hb hpl hall hnn
 refine thn (hd pos pins s1 σ H1 _ I1 q1) λws s2 ⟨zs,H2,I2,r2,pp,ns,d,e1,e2,hp,q0,qm⟩=>?_
 subst e1 e2
 obtain⟨u,rfl,ru⟩:=r1.one
 obtain⟨v,rfl,rv⟩:=r2.one
 cases(show u=Value.ref pp from ru)
 rw[hks]
 obtain⟨its,rr,pl,hz⟩:=I2.list hp
 obtain⟨ys,e1,e2⟩:=ZdS rr
 have hsz:ys.size=ns.length:=by
  have:=congrArg List.length e2
  rw[Yh,Yk]at this
  exact this
 refine Zku (xs:=ys) (I2.ok.hd hc) (e1▸pl.isList) (λz h' tk k=>?_) (λz v' h' tk hv k=>?_)
 ·exact⟨.int d,H2,I2.kept k,rv,q0 (List.length_eq_zero_iff.mp (by omega))⟩
 ·obtain⟨t,rfl⟩:=intItems_at hv
  obtain⟨h1,h2⟩:=argBest_lt (numAt ys) (ys.size-1)
  refine⟨.int _,H2,I2.kept k,⟨t,rfl⟩,qm (λy=>by have h3:ys.size=0:=(by rw[hsz,y];rfl);omega) _ ?_ λa ha=>?_⟩
  ·rw[numAt_eq,e2];exact getD_mem (by omega)
  ·obtain⟨j,hj,rfl⟩:=mem_getD ha
   rw[<-e2,<-numAt_eq];exact h2 j (by omega)
end
theorem ZgK {P:Nat->Prop}:∀n,¬ (∀j,j<n->P j)->∃j,j<n/\¬ P j/\∀i,i<j->P i
 |0,h=>absurd (λj hj=>by omega) h
 |n+1,h=>by
  by_cases z:∀j,j<n->P j
  ·exact⟨n,by omega,λy=>h λj hj=>by
    by_cases e:j=n
    ·rw[e];exact y
    ·exact z j (by omega),z⟩
  ·obtain⟨j,h1,h2,h3⟩:=ZgK n z
   exact⟨j,by omega,h2,h3⟩
section
variable {prog:Program}{w:World}{A:Around}{E Q:Value->Shared->Prop}{s:Shared}{it t:Addr}{i:Nat}{items:Array Value}
theorem Zd0 {x:Value} (hi:s.heap.IsTupleIter it t i) (ht:s.heap.IsTuple t items) (hx:items[i]?=some x) (h:∀h',h'.IsTupleIter it t (i+1)->Heap.SameBut it s.heap h'->Q x {s with heap:=h'}):wpAny (model prog w) A (Builtin.SmallTypes.nextOf (.ref it)) Q E s:=by
 obtain⟨o,ho,hc,hd⟩:=id hi
 obtain⟨ot,hot,hct,n,hdt⟩:=id ht
 have hT:s.TypeIs (.ref it) "tuple_iterator":=⟨o,ho,hc⟩
 unfold Builtin.SmallTypes.nextOf
 refine Ya (wpAny_callSpecial?_slot hT F.slot_tuple_iterator_next (wpAny_call_entry F.slot_tuple_iterator_next hT F.entry_tuple_iterator_next ?_ (F.args_tuple_iterator_next_1 _)))
 show wpAny _ _ (_ >>= _) _ _ _
 refine Ya (wpAny_of_eq (show slotArgs "__next__" 0 {pos:=[.ref it]}=pure (.ref it,[])from rfl) ?_)
 refine Ya (wpAny_field ho hd (x:=.ref t) rfl ?_)
 rw[Yb (by simp)]
 refine Ya (wpAny_field ho hd (x:=.int (i:Int) 0) rfl ?_)
 refine Ya (wpAny_seqItems hot hdt ?_)
 dsimp only
 rw[Y9,hx]
 refine Ya (wpAny_setField ho hd (by show 1<2;decide) (Ye ⟨x,rfl,?_⟩))
 refine Ye (h _ ?_ ⟨by simp,λb hb=>Heap.get?_update_other _ _ (Ne.symm hb)⟩)
 obtain⟨cls,dict,data,slots⟩:=o
 simp only at hc hd
 subst hc hd
 exact⟨_,Heap.get?_update_self _ ho rfl,rfl,rfl⟩
theorem Zeq (hA:A.handled=none) (hi:s.heap.IsTupleIter it t i) (ht:s.heap.IsTuple t items) (hx:items[i]?=none) (h:∀h' e,Heap.ExtBut it s.heap h'->(∃o,h'.get? e=some o/\o.cls=.type "StopIteration")->E (.ref e) {s with heap:=h'}):wpAny (model prog w) A (Builtin.SmallTypes.nextOf (.ref it)) Q E s:=by
 obtain⟨o,ho,hc,hd⟩:=id hi
 obtain⟨ot,hot,hct,n,hdt⟩:=id ht
 have hT:s.TypeIs (.ref it) "tuple_iterator":=⟨o,ho,hc⟩
 unfold Builtin.SmallTypes.nextOf
 refine Ya (wpAny_callSpecial?_slot hT F.slot_tuple_iterator_next (wpAny_call_entry F.slot_tuple_iterator_next hT F.entry_tuple_iterator_next ?_ (F.args_tuple_iterator_next_1 _)))
 show wpAny _ _ (_ >>= _) _ _ _
 refine Ya (wpAny_of_eq (show slotArgs "__next__" 0 {pos:=[.ref it]}=pure (.ref it,[])from rfl) ?_)
 refine Ya (wpAny_field ho hd (x:=.ref t) rfl ?_)
 rw[Yb (by simp)]
 refine Ya (wpAny_field ho hd (x:=.int (i:Int) 0) rfl ?_)
 refine Ya (wpAny_seqItems hot hdt ?_)
 dsimp only
 rw[Y9,hx]
 refine Ya (wpAny_rule (Ya (wpAny_setField ho hd (by show 0<2;decide) ?_)))
 unfold Builtin.SmallTypes.stopIteration
 refine Ya ?_
 unfold newExc
 refine Ya (wpAny_newTuple ?_ (Yp _))
 refine Ya (wpAny_of_eq (show firstArgMember (.type "StopIteration") []=pure .none by first|rfl|(unfold firstArgMember;rfl)) ?_)
 refine wpAny_newObj_type (wpAny_raiseNew_none hA (h _ _ (λb o' hb e=>?_) ⟨_,Yy _ rfl,rfl⟩))
 exact Ym _ (Ym _ ((Heap.get?_update_other _ _ (Ne.symm hb)).trans e))
theorem ZeR (hA:A.handled=none) (it t:Addr) (hne:t≠it) (items:Array Value):Draws prog w A it [it,t] items.size (λi v=>items[i]?=some v) (λi h=>h.IsTupleIter it t i/\h.IsTuple t items) where
 live:=λi h st=>by obtain⟨⟨o,ho,_⟩,_⟩:=st;exact⟨o,ho⟩
 frame:=λi h h' st k=>by
  obtain⟨⟨o,ho,r⟩,⟨ot,hot,rt⟩⟩:=st
  exact⟨⟨o,k it (by simp) o ho,r⟩,⟨ot,k t (by simp) ot hot,rt⟩⟩
 item:=λi s Q E hi st h=>by
  obtain⟨ot,hot,rt⟩:=st.2
  refine Zd0 st.1 st.2 (Array.getElem?_eq_getElem hi) λh' hit hs=>h _ h' s.toks (Array.getElem?_eq_getElem hi) ⟨hit,⟨ot,(hs.2 t hne).trans hot,rt⟩⟩ hs
 done:=λs Q E st h=>Zeq hA st.1 st.2 (Array.getElem?_eq_none (Yd _)) h
end
section
variable {X:Cx}{pins:List (Addr×Obj)}{σ:St}{H:Hp}{s:Shared}{h':Heap}
noncomputable def IteT (K : Frag) (a : Addr) : It :=
  ⟨fun i H => ∃ xs x, SqT K H a xs ∧ xs[i]? = some x,
   fun i H v H' => ∃ p x, H p = none ∧ v = .ref p ∧ H' = upd H p (.tup [.int (i : Int), x]) ∧ ∀ xs, SqT K H a xs → xs[i]? = some x,
   fun i H => ∃ xs, SqT K H a xs ∧ xs.length = i⟩
theorem Zi1 {P:Program}{w:World}{K:Frag}{elts:List Expr} {x1}{pos:Pos}{a e it:Addr} (h1:e≠it) (h2:a≠e) (h3:a≠it) :
  Turn P w K (.Tuple elts x1 pos) (IteT K a) [e,it] e (λi h=>(∃old,IsEnum h e it (i:Int) old)/\h.IsTupleIter it a i) where
 mem:=by simp
 obj:=λi h st c hc=>by
  obtain⟨⟨old,q1⟩,⟨o4,q4,_,d4⟩⟩:=st
  simp at hc
  rcases hc with rfl|rfl
  ·exact⟨_,q1,λv z=>by cases z⟩
  ·exact⟨_,q4,λv z=>by rw[d4]at z;cases z⟩
 keep:=λi h h' st k=>by
  obtain⟨⟨old,q1⟩,⟨o,ho,r⟩⟩:=st
  exact⟨⟨old,k e (by simp) _ q1⟩,⟨o,k it (by simp) o ho,r⟩⟩
 item:=by
  intro X hP hw hK hc i pins s σ H E I hf st hg
  subst hP hw hK
  obtain⟨xs,x,qa,hx⟩:=hg
  obtain⟨is1,r1,p1,hz1⟩:=I.tuple qa
  obtain⟨u,hu,ru⟩:=r1.get hx
  have W:=WalksT.enumerateD (prog:=X.prog) (w:=X.w) (A:=X.A) (ZeR (A:=X.A.in1) (I.ok.hd hc) it a h3 is1.toArray) e h1 (by simp;exact⟨h1,h2.symm⟩) (by simp)
  have hi:i<is1.toArray.size:=by
   have:=(Yw.mp hu).1
   simpa using this
  refine W.item i s _ E hi ⟨st.1,st.2,p1⟩ λT vals h' tk Pt hT hTup Mid keep=>⟨_,rfl,W.go elts x1 pos i T _ _ E Mid λh2' St2 keep2=>?_⟩
  obtain⟨t,y,hy,rfl⟩:=Pt
  have hyu:y=u:=by
   have:is1[i]?=some y:=by simpa using hy
   rw[hu]at this;exact(YA this).symm
  subst hyu
  have nT:=W.apart i T h' Mid
  have hfr:H T=none:=I.hok.fresh hT
  have kk:∀b o,b∉[e,it]->s.heap.get? b=some o->h2'.get? b=some o:=λb o hb q=>keep2 b o hb (keep b o hb q)
  have nTe:∀c∈[e,it],c≠T:=λc hc z=>nT (z▸hc)
  refine⟨.ref T,_,Inv.ZmX (s:=s) (t':=tk) (o:=.tup [.int (i:Int),x]) I kk hf hT ?_,rfl,⟨T,x,hfr,rfl,rfl,λxs' q'=>?_⟩,⟨?_,St2.2.1⟩,λc hc=>?_⟩
  ·obtain⟨oT,q1,q2,n,q3⟩:=hTup
   exact⟨by show 2<=sizeLine;decide,[.int (i:Int) t,y],.cons ⟨t,rfl⟩ (.cons ru .nil),⟨oT,keep2 T oT nT q1,q2,n,q3⟩⟩
  ·rw[I.Zel q' qa];exact hx
  ·obtain⟨old,q⟩:=St2.1
   exact⟨old,by rw[show(((i+1:Nat)):Int)=(i:Int)+1 by omega]at *;exact q⟩
  ·rw[Zh (nTe c hc)];exact(hf c hc).1
 done:=by
  intro X hP hw hK hc i pins s σ H E I hf st hg
  subst hP hw hK
  obtain⟨xs,qa,hx⟩:=hg
  obtain⟨is1,r1,p1,_⟩:=I.tuple qa
  have W:=WalksT.enumerateD (prog:=X.prog) (w:=X.w) (A:=X.A) (ZeR (A:=X.A.in1) (I.ok.hd hc) it a h3 is1.toArray) e h1 (by simp;exact⟨h1,h2.symm⟩) (by simp)
  have hi:i=is1.toArray.size:=by
   have:=r1.length
   simp;omega
  refine W.done s _ E ?_ λh' tk keep=>⟨rfl,I.ZmT (t':=tk) (fp:=[e,it]) (λc o hc q=>keep c o hc q) hf⟩
  rw[<-hi]
  exact⟨st.1,st.2,p1⟩
 self:=λA i s Q E st h=>by
  obtain⟨⟨old,q⟩,_⟩:=st
  exact wpAny_pyIter_enum q h
theorem Zi2 {M:Model}{A:Around}{E:Value->Shared->Prop}{s:Shared} (cls:Value):wpAny M A (Builtin.SmallTypes.calledThroughType cls) (λ_ s'=>s'=s) E s:=by
 unfold Builtin.SmallTypes.calledThroughType
 exact Ya (wpAny_stack λst _ _ _=>Ye rfl)
theorem Zh8 {prog:Program}{w:World} (l:Addr) (items:Array Value):MeetsIn prog w (Builtin.«enumerate.__new__» {pos:=[.type "enumerate",.ref l]}) λA R s=>s.heap.IsTuple l items/\R (.ok (.ret (.ref (s.heap.objs.size+1)))) {s with heap:=(s.heap.push {cls:=.type "tuple_iterator",data:=.fields #[.ref l,.int 0 0]}).push {cls:=.type "enumerate",data:=.fields #[.none,.bool false,.ref s.heap.objs.size,rawInt 0,.none,.none]}}:=by
 intro A R s ⟨h,hR⟩
 unfold Builtin.«enumerate.__new__»
 refine Ya (wpAny_of_eq (show Builtin.SmallTypes.newClass "enumerate" {pos:=[.type "enumerate",.ref l]}=pure (.type "enumerate",[.ref l])from by first|rfl|(unfold Builtin.SmallTypes.newClass;rfl)) ?_)
 show wpAny _ _ (_ >>= _) _ _ _
 have hsz:(s.heap.push {cls:=.type "tuple_iterator",data:=.fields #[.ref l,.int 0 0]}).objs.size=s.heap.objs.size+1:=Heap.size_push _ _
 refine Ya (thn (Zi2 (.type "enumerate")) λb s' e=>?_)
 subst e
 cases b with
 |true =>
  show wpAny _ _ (_ >>= _) _ _ _
  refine Ya (wpAny_of_eq (show _=pure (.ref l,none)from rfl) ?_)
  show wpAny _ _ (_ >>= _) _ _ _
  refine Ya (wpAny_pyIter_tuple h ?_)
  show wpAny _ _ (newObj (.type "enumerate") (.fields #[.none,.bool false,.ref s'.heap.objs.size,rawInt 0,.none,.none]) >>= _) _ _ _
  refine Ya (wpAny_newObj_type (Ye ?_))
  rw[hsz];exact hR
 |false =>
  show wpAny _ _ (_ >>= _) _ _ _
  refine Ya (wpAny_of_eq (show _=pure (.ref l,none)from rfl) ?_)
  show wpAny _ _ (_ >>= _) _ _ _
  refine Ya (wpAny_pyIter_tuple h ?_)
  show wpAny _ _ (newObj (.type "enumerate") (.fields #[.none,.bool false,.ref s'.heap.objs.size,rawInt 0,.none,.none]) >>= _) _ _ _
  refine Ya (wpAny_newObj_type (Ye ?_))
  rw[hsz];exact hR
noncomputable def iEnumT (K:Frag) (ta:TA):TI:=fun σ H R=>ta σ H λvs H1=>∃a xs,vs=[.ref a]/\SqT K H1 a xs/\R (IteT K a) H1
theorem Zh9 {K:Frag}{elts:List Expr} {x1}{tp:Pos}{e1:Expr}{ta:TA}{p pos:Pos} (hK:X.K=K) (hg:Gl X "enumerate") (hm:X.mg "enumerate"=none) (ha:PA X [e1] ta) (hs:starEach [e1] X.env=[(false,eval e1 X.env)]:=by rfl) :
  PI X (.Tuple elts x1 tp) (.Call (.Name "enumerate" p) [e1] [] pos) (iEnumT K ta):=by
 subst hK
 intro pins s σ H R I h
 refine wpAny_Call_Name_kw (Zdq I hg hm Zi0 ?_)
 refine PyProof.Rows.callWith_type1 (thn (ha pos pins s σ H _ I h) λus s1 ⟨vs,H1,I1,r1,a,xs,e1,qa,q⟩=>?_) hs rfl
 subst e1
 obtain⟨u,rfl,ru⟩:=r1.one
 cases(show u=Value.ref a from ru)
 obtain⟨is1,rr1,p1,_⟩:=I1.tuple qa
 have l1:a<s1.heap.objs.size:=by obtain⟨o,e,_⟩:=p1;exact Yi e
 have sm:∀b,s1.heap.objs.size<=b->FpOk X pins H1 b:=λb hb=>I1.fpOk hb (I1.hok.fresh hb)
 have n1:s1.heap.objs.size+1≠s1.heap.objs.size:=by show ¬ ((_:Nat)=_);omega
 have n2:a≠s1.heap.objs.size+1:=Yl (YS l1)
 have n3:a≠s1.heap.objs.size:=Yl l1
 have T:=Zi1 (P:=X.prog) (w:=X.w) (K:=X.K) (elts:=elts) (x1:=x1) (pos:=tp) n1 n2 n3
 have hsz:(s1.heap.push {cls:=.type "tuple_iterator",data:=.fields #[.ref a,.int 0 0]}).objs.size=s1.heap.objs.size+1:=Heap.size_push _ _
 have c1:IsEnum ((s1.heap.push {cls:=.type "tuple_iterator",data:=.fields #[.ref a,.int 0 0]}).push {cls:=.type "enumerate",data:=.fields #[.none,.bool false,.ref s1.heap.objs.size,rawInt 0,.none,.none]}) (s1.heap.objs.size+1) s1.heap.objs.size 0 .none:=by
  show Heap.get? _ _=_
  rw[<-hsz];exact Yy _ rfl
 have c2:((s1.heap.push {cls:=.type "tuple_iterator",data:=.fields #[.ref a,.int 0 0]}).push {cls:=.type "enumerate",data:=.fields #[.none,.bool false,.ref s1.heap.objs.size,rawInt 0,.none,.none]}).IsTupleIter s1.heap.objs.size a 0:=⟨_,Ym _ (Yy _ rfl),rfl,rfl⟩
 refine callType_newIn F.called_enumerate rfl (by first|rfl|decide) (F.newCall_enumerate_1 _) (λobj=>by first|rfl|decide) F.entry_enumerate_new (Zh8 a is1.toArray) ⟨p1,⟨_,c1,rfl⟩,?_⟩
 refine T.self _ 0 _ _ _ ⟨⟨_,c1⟩,c2⟩ ?_
 refine⟨_,[s1.heap.objs.size+1,s1.heap.objs.size],_,_,H1,rfl,I1.kept (t':=s1.toks) (λb o e=>Ym _ (Ym _ e)),T,⟨⟨_,c1⟩,c2⟩,λc hc=>?_,q⟩
 simp at hc
 rcases hc with rfl|rfl<;>exact sm _ (by omega)
end
open Classical in
noncomputable def Zbb (f:Nat->Int) (p:Nat):Int:=if h:∃q,ZD f p q then (Classical.choose h:Nat)else -1
open Classical in
noncomputable def Zas (f:Nat->Int) (n p:Nat):Int:=if h:∃r,ZE f n p r then (Classical.choose h:Nat)else (n:Int)
theorem Zam {f:Nat->Int}{p q:Nat} (h:ZD f p q):Zbb f p=q:=by
 have hx:∃q,ZD f p q:=⟨q,h⟩
 unfold Zbb
 rw[dif_pos hx,(Classical.choose_spec hx).unique h]
theorem Zca {f:Nat->Int}{p:Nat} (h:ZaJ f p):Zbb f p=-1:=by
 unfold Zbb
 rw[dif_neg λ⟨q,hq⟩=>hq.no h]
theorem Zdc {f:Nat->Int}{n p r:Nat} (h:ZE f n p r):Zas f n p=r:=by
 have hx:∃r,ZE f n p r:=⟨r,h⟩
 unfold Zas
 rw[dif_pos hx,(Classical.choose_spec hx).unique h]
theorem Zfi {f:Nat->Int}{n p:Nat} (h:Zaw f n p):Zas f n p=n:=by
 unfold Zas
 rw[dif_neg λ⟨q,hq⟩=>hq.no h]
theorem Zcb {f:Nat->Int}{n p:Nat}{e:Int} (h:Zy f n p e):(ZaJ f p\/∃q,ZD f p q)/\(Zaw f n p\/∃r,ZE f n p r):=by
 rcases h with⟨h1,h2,_⟩|⟨q,h1,h2,_⟩|⟨r,h1,h2,_⟩|⟨q,r,h1,h2,_⟩
 ·exact⟨.inl h1,.inl h2⟩
 ·exact⟨.inr ⟨q,h1⟩,.inl h2⟩
 ·exact⟨.inl h1,.inr ⟨r,h2⟩⟩
 ·exact⟨.inr ⟨q,h1⟩,.inr ⟨r,h2⟩⟩
theorem ZD.over {f:Nat->Int}{p q:Nat} (h:ZD f p q):Over f q p:=.inl ⟨h.1,λr r1 r2=>by
 by_cases z:r=p
 ·rw[z];exact h.2.1
 ·have:=h.2.2 r r1 (by omega);have:=h.2.1;omega⟩
theorem ZE.over {f:Nat->Int}{n p q:Nat} (h:ZE f n p q):Over f q p:=.inr ⟨h.1,λr r1 r2=>by
 by_cases z:r=p
 ·rw[z];exact h.2.2.1
 ·have:=h.2.2.2 r (by omega) r2;have:=h.2.2.1;omega⟩
theorem Zia {ns T:List Int} (hT:Zp ns T) {p:Nat} (hp:p<ns.length):let L:=(Zcz T p).filter λo=>decide (o<(p:Int))
  (L=[]->Zbb (nth ns) p=-1)/\(L≠[]->∀m,m∈L->(∀a∈L,a<=m)->m=Zbb (nth ns) p):=by
 intro L
 have hL:∀o:Nat,(o:Int)∈L↔o<p/\o<ns.length/\Over (nth ns) o p:=λo=>by
  rw[YJ,Zfh hT hp,decide_eq_true_eq]
  exact⟨λh=>⟨by omega,h.1⟩,λh=>⟨h.2,by omega⟩⟩
 have hN:∀m∈L,∃o:Nat,m=o:=λm hm=>by
  have:=(YJ.mp hm).1
  rw[Zh6]at this
  obtain⟨o,_,e⟩:=YD.mp this
  exact⟨o,e.symm⟩
 rcases(Zcb (hT.2 p hp)).1 with h|⟨q,h⟩
 ·refine⟨λ_=>Zca h,λhne m hm _=>?_⟩
  obtain⟨o,rfl⟩:=hN m hm
  obtain⟨h1,_,h2⟩:=(hL o).mp hm
  have:=h o h1
  rcases h2 with⟨_,k⟩|⟨z,_⟩
  ·have:=k p h1 (Yd _);omega
  ·omega
 ·have hq:(q:Int)∈L:=(hL q).mpr ⟨h.1,by have:=h.1;omega,h.over⟩
  refine⟨λe=>by rw[e]at hq;simp at hq,λ_ m hm hmax=>?_⟩
  rw[Zam h]
  obtain⟨o,rfl⟩:=hN m hm
  obtain⟨h1,_,h2⟩:=(hL o).mp hm
  have hqo:=hmax _ hq
  by_cases z:o=q
  ·rw[z]
  ·have:=h.2.2 o (by omega) h1
   rcases h2 with⟨_,k⟩|⟨z,_⟩
   ·have:=k p h1 (Yd _);omega
   ·omega
theorem Zib {ns T:List Int} (hT:Zp ns T) {p:Nat} (hp:p<ns.length):let L:=(Zcz T p).filter λo=>decide ((p:Int)<o)
  (L=[]->Zas (nth ns) ns.length p=ns.length)/\(L≠[]->∀m,m∈L->(∀a∈L,m<=a)->m=Zas (nth ns) ns.length p):=by
 intro L
 have hL:∀o:Nat,(o:Int)∈L↔p<o/\o<ns.length/\Over (nth ns) o p:=λo=>by
  rw[YJ,Zfh hT hp,decide_eq_true_eq]
  exact⟨λh=>⟨by omega,h.1⟩,λh=>⟨h.2,by omega⟩⟩
 have hN:∀m∈L,∃o:Nat,m=o:=λm hm=>by
  have:=(YJ.mp hm).1
  rw[Zh6]at this
  obtain⟨o,_,e⟩:=YD.mp this
  exact⟨o,e.symm⟩
 rcases(Zcb (hT.2 p hp)).2 with h|⟨q,h⟩
 ·refine⟨λ_=>Zfi h,λhne m hm _=>?_⟩
  obtain⟨o,rfl⟩:=hN m hm
  obtain⟨h1,h3,h2⟩:=(hL o).mp hm
  have:=h o h1 h3
  rcases h2 with⟨z,_⟩|⟨_,k⟩
  ·omega
  ·have:=k p (Yd _) h1;omega
 ·have hq:(q:Int)∈L:=(hL q).mpr ⟨h.1,h.2.1,h.over⟩
  refine⟨λe=>by rw[e]at hq;simp at hq,λ_ m hm hmin=>?_⟩
  rw[Zdc h]
  obtain⟨o,rfl⟩:=hN m hm
  obtain⟨h1,h3,h2⟩:=(hL o).mp hm
  have hqo:=hmin _ hq
  by_cases z:o=q
  ·rw[z]
  ·have:=h.2.2.2 o h1 (by omega)
   rcases h2 with⟨z,_⟩|⟨_,k⟩
   ·omega
   ·have:=k p (Yd _) h1;omega
noncomputable def ZaX (f:Nat->Int) (p:Nat):Int:=if 0<=Zbb f p then (p:Int)-Zbb f p else 0
noncomputable def Zdj (ns:List Int):List Int:=(List.range ns.length).map (ZaX (nth ns))
theorem ZgL (ns:List Int):(Zdj ns).length=ns.length:=by simp[Zdj]
noncomputable def Zaf (H:Hp) (l:Addr) (n:Nat) (ps:Nat->Int×Int):Prop:=∃qs:List Addr,H l=some (.lst (qs.map V.ref))/\qs.length=n/\∀(j:Nat) (q:Addr),qs[j]?=some q->H q=some (.tup [.int (ps j).1,.int (ps j).2])
theorem Zaf.same {H H':Hp}{l:Addr}{n:Nat}{ps:Nat->Int×Int} (h:Zaf H l n ps) (s:Zf H H'):Zaf H' l n ps:=by
 obtain⟨qs,h1,h2,h3⟩:=h
 exact⟨qs,s _ _ h1,h2,λj q hq=>s _ _ (h3 j q hq)⟩
theorem Zaf.push {H:Hp}{l q:Addr}{n:Nat}{ps:Nat->Int×Int} (h:Zaf H l n ps) (hq:H q=some (.tup [.int (ps n).1,.int (ps n).2])):∃xs:List V,H l=some (.lst xs)/\xs.length=n/\Zaf (upd H l (.lst (xs++[.ref q]))) l (n+1) ps:=by
 obtain⟨qs,h1,h2,h3⟩:=h
 have hne:∀a o,H a=some (.tup o)->a≠l:=λa o ha z=>by rw[z,h1]at ha;cases ha
 refine⟨_,h1,by simp[h2],qs++[q],by rw[Zd];simp,by simp[h2],λj a ha=>?_⟩
 by_cases z:j<qs.length
 ·rw[Y5 z]at ha
  have:=h3 j a ha
  rw[Zh (hne _ _ this)];exact this
 ·have hj:=(Yw.mp ha).1
  rw[Yu]at hj
  have:j=n:=by simp at hj;omega
  subst this
  rw[Y1 (by omega),h2]at ha
  simp at ha
  rw[<-ha,Zh (hne _ _ hq)];exact hq
theorem Zd1 {f:Nat->Int} (v:Int):∀S:List Nat,S.Pairwise (λa b=>f a<=f b)->∃A B,S=A++B/\(∀q∈A,f q<=v)/\∀q∈B,v<f q
 |[],_=>⟨[],[],rfl,λ_ h=>(nomatch h),λ_ h=>(nomatch h)⟩
 |q::r,h=>by
  have hr:=YZ.mp h
  by_cases z:f q<=v
  ·obtain⟨A,B,e,h1,h2⟩:=Zd1 v r hr.2
   refine⟨q::A,B,by rw[e];rfl,λx hx=>?_,h2⟩
   rcases Yj.mp hx with y|y
   ·rw[y];exact z
   ·exact h1 x y
  ·refine⟨[],q::r,rfl,λ_ h=>(nomatch h),λx hx=>?_⟩
   rcases Yj.mp hx with y|y
   ·rw[y];omega
   ·have:=hr.1 x y;omega
theorem Zbk.mono {f:Nat->Int}{i:Nat}{S:List Nat} (h:Zbk f i S):S.Pairwise (λa b=>f a<=f b):=by
 refine List.Pairwise.imp_of_mem ?_ h.1
 intro a b ha hb hab
 exact((h.2 a).mp ha).2 b hab ((h.2 b).mp hb).1
theorem Zi3 {f:Nat->Int}{i:Nat}{A B:List Nat} (hs:Zbk f i (A++B)) (hA:∀q∈A,f q<=f i) (hB:∀q∈B,f i<f q):(A=[]/\ZaJ f i)\/∃A' q,A=A'++[q]/\ZD f i q:=by
 have op:∀q,ZD f i q->q∈A:=λq h=>by
  have hm:q∈A++B:=(hs.2 q).mpr ⟨h.1,λr r1 r2=>by have:=h.2.2 r r1 r2;have:=h.2.1;omega⟩
  rcases Ys.mp hm with z|z
  ·exact z
  ·have:=hB q z;have:=h.2.1;omega
 rcases Zb7 f i with h|⟨q,h⟩
 ·left
  refine⟨?_,h⟩
  cases A with
  |nil=>rfl
  |cons a r =>
   have h1:=hA a (by simp)
   have h2:=h a ((hs.2 a).mp (by simp)).1
   omega
 ·right
  have hq:=op q h
  have hne:A≠[]:=λz=>by rw[z]at hq;cases hq
  refine⟨A.dropLast,A.getLast hne,(List.dropLast_concat_getLast hne).symm,?_⟩
  have hl:A.getLast hne∈A:=List.getLast_mem hne
  have hli:=((hs.2 _).mp (YN _ hl)).1
  have:A.getLast hne=q:=by
   rcases Nat.lt_trichotomy (A.getLast hne) q with z|z|z
   ·-- q stands behind the last one
    have hpw:=(List.pairwise_append.mp hs.1).1
    rw[<-List.dropLast_concat_getLast hne]at hq hpw
    rcases Ys.mp hq with y|y
    ·have:=(List.pairwise_append.mp hpw).2.2 q y _ (YW.mpr rfl)
     omega
    ·have:q=A.getLast hne:=by simpa using y
     omega
   ·exact z
   ·have:=h.2.2 _ z hli;have:=hA _ hl;omega
  rw[this];exact h
theorem Zkv {f:Nat->Int}{i:Nat}{A B:List Nat} (hs:Zbk f i (A++B)) (hA:∀q∈A,f q<=f i) (hB:∀q∈B,f i<f q):(A=[]/\ZaX f i=0)\/∃A' q,A=A'++[q]/\q<i/\ZaX f i=(i:Int)-q:=by
 rcases Zi3 hs hA hB with⟨h1,h2⟩|⟨A',q,h1,h2⟩
 ·left;refine⟨h1,?_⟩
  unfold ZaX;rw[Zca h2,Yb (by omega)]
 ·right;refine⟨A',q,h1,h2.1,?_⟩
  unfold ZaX;rw[Zam h2,Yc (by omega)]
theorem Zfu {J:It}{n:Nat}{g:TG}{tb:TS}{D:Ends}{σ:St}{H:Hp} (Pv:Nat->St->Hp->Prop) (h0:Pv 0 σ H) (hgo:∀i σ H,i<n->Pv i σ H->J.go i H) (hstop:∀σ H,Pv n σ H->J.stop n H)
  (hs:∀i x σ H H',i<n->Pv i σ H->J.yld i H x H'->g x σ H' fun σ2 H2=>tb {D with nx:=Pv (i+1),ct:=Pv (i+1),bk:=D.nx} σ2 H2) (hd:∀σ H,Pv n σ H->D.nx σ H):LoopR J g tb D σ H:=by
 refine⟨λi m σ H=>m=n-i/\i<=n/\Pv i σ H,⟨n,by simp,Yp _,h0⟩,?_⟩
 rintro i m σ H ⟨rfl,hi,p⟩
 by_cases hlt:i<n
 ·exact .inr ⟨hgo i σ H hlt p,Pv (i+1),fun σ' H' p'=>⟨n-(i+1),by omega,rfl,hlt,p'⟩,λx H' y=>hs i x σ H H' hlt p y⟩
 ·have:i=n:=by omega
  subst this
  exact .inl ⟨hstop σ H p,hd σ H p⟩
theorem ZlG (L:List Int):L=(List.range L.length).map λi=>L.getD i 0:=by
 refine List.ext_getElem (by simp) λj h1 h2=>?_
 simp[Yg,h1]
theorem ZgM {K:Frag}{a:Addr}{L:List Int}{H1:Hp}{Q:VK}{tt:TT}{σr:St} (P:Int->Bool) (ha:H1 a=some (.lst (L.map V.int))) (hn:L.length<=1000)
  (ht:∀(x:Int) (H:Hp) (R:Bool->Hp->Prop),R (P x) H->tt (some (V.int x)::σr) H R)
  (hk:∀l H',Zf H1 H'->H' l=none->Q (.ref l) (upd H' l (.lst ((L.filter P).map V.int)))) :
  ZhU (Itl K a) (gName 0) tt (tVar 0) (none::σr) Q H1:=by
 refine Zko (n:=L.length) (λi=>P (L.getD i 0)) (λi=>V.int (L.getD i 0)) (YE hn (by decide)) (λi Hx s hi=>⟨_,_,SqL.of (s _ _ ha),Yf (by simpa using hi)⟩) (λHx s=>⟨_,SqL.of (s _ _ ha),by simp⟩) ?_ ?_
 ·rintro i x Hx Hy hi s ⟨rfl,hx⟩
  have ex:=hx _ (SqL.of (s _ _ ha))
  rw[YB,Yf hi]at ex
  cases ex
  have eg:L.getD i 0=L[i]:=by simp[Yg,hi]
  refine ht _ _ _ ?_
  cases hP:P L[i]with
  |true =>
   rw[Yc rfl]
   exact⟨_,rfl,CF.take hi (by rw[eg];exact hP) (by rw[eg]) s⟩
  |false =>
   rw[Yb (by simp)]
   exact CF.skip hi (by rw[eg];exact hP) s
 ·intro l H' s hl
  have:=hk l H' s hl
  have e:((List.range L.length).filter λi=>P (L.getD i 0)).map (λi=>V.int (L.getD i 0))=(L.filter P).map V.int:=by
   conv=>rhs;rw[ZlG L,List.filter_map,YU]
   rfl
  rw[e];exact this
theorem Zi4 (l:List Nat):Zr l=(l.map λq=>((q:Nat):Int)).map V.int:=by simp[Zr,Function.comp_def]
theorem Zm0 {A B:List Nat}{q:Nat} (h:(A++[q]++B).Pairwise (· < ·)):List.idxOf (q:Int) ((A++[q]++B).map λq=>((q:Nat):Int))=A.length:=by
 have hn:(q:Int)∉A.map λq=>((q:Nat):Int):=λhm=>by
  obtain⟨x,hx,e⟩:=YD.mp hm
  have:=(List.pairwise_append.mp (List.pairwise_append.mp h).1).2.2 x hx q (by simp)
  omega
 rw[YY,Y8,List.idxOf_append,Yb hn]
 simp
noncomputable def Zer (j p:Nat):Nat:=j / 4 ^ p % 4
end L2
namespace PySem
open Sem (wp)
end PySem
namespace L2
open PySem PySem.Spec PyProof.Rows PySem.W
theorem Zhq {f:Nat->Int}{n p:Nat} (hp:p<n):-1<=Zbb f p/\Zbb f p<p/\(p:Int)<Zas f n p/\Zas f n p<=n:=by
 obtain⟨hA,hB⟩:=Zcb (Zh0 (f:=f) hp)
 have a1:-1<=Zbb f p/\Zbb f p<p:=by
  rcases hA with hA|⟨q,hA⟩
  ·rw[Zca hA];omega
  ·rw[Zam hA];have:=hA.1;omega
 have a2:(p:Int)<Zas f n p/\Zas f n p<=n:=by
  rcases hB with hB|⟨q,hB⟩
  ·rw[Zfi hB];omega
  ·rw[Zdc hB];have:=hB.1;have:=hB.2.1;omega
 exact⟨a1.1,a1.2,a2.1,a2.2⟩
theorem Zgl {F:Nat->Int}{n k:Nat}{v:Int}:((List.range n).map F).set k v=(List.range n).map λp=>if p=k then v else F p:=by
 refine List.ext_getElem (by simp) λj h1 h2=>?_
 simp only[List.length_set,Yh,Y0]at h1
 rw[List.getElem_set]
 by_cases e:k=j
 ·simp[e]
 ·have e':¬ j=k:=λz=>e z.symm
  simp[e,e']
theorem Zad {F:Nat->Int}{n k:Nat} (h:k<n):nth ((List.range n).map F) k=F k:=by simp[nth,Yg,h]
end L2
namespace L2
theorem snoc_cases {α:Type} (xs:List α):xs=[]\/∃ys y,xs=ys++[y]:=by
 rcases List.eq_nil_or_concat xs with h|⟨ys,y,h⟩
 ·exact .inl h
 ·exact .inr ⟨ys,y,by rw[h,List.concat_eq_append]⟩
end L2
namespace L2
open PySem PySem.Spec PyProof.Rows PySem.W
end L2
namespace L2
open PySem PySem.Spec PyProof.Rows PySem.W
noncomputable def TupsAt (H:Hp) (l:Addr) (rs:List (List Int)):Prop:=∃as:List Addr,H l=some (.lst (as.map V.ref))/\as.length=rs.length/\∀i (h1:i<as.length) (h2:i<rs.length),H as[i]=some (.tup (rs[i].map V.int))
theorem TupsAt.same {H H':Hp}{l:Addr}{rs:List (List Int)} (R:TupsAt H l rs) (s:Zf H H'):TupsAt H' l rs:=by
 obtain⟨as,h1,h2,h3⟩:=R
 exact⟨as,s _ _ h1,h2,λi i1 i2=>s _ _ (h3 i i1 i2)⟩
noncomputable def Once (k:Nat) (ss ls:List Int):Prop:=ss=((List.range k).map λ(j:Nat)=>(j:Int)).filter (λj=>decide (j∉ls))/\ls=((List.range k).map λ(j:Nat)=>(j:Int)).filter (λj=>decide (j∈ls))
noncomputable instance (k:Nat) (ss ls:List Int):Decidable (Once k ss ls):=inferInstanceAs (Decidable (_/\_))
section
variable {N:Nat}{k:Nat->Int}{cmp:Nat->Nat->(Bool->Shared->Prop)->Shared->Prop}{s:Shared}{p:Array Nat}
noncomputable def kk (k:Nat->Int) (p:Array Nat) (i:Nat):Int:=k (p.getD i 0)
end
theorem Zbz {f g:Nat->Int}{i:Nat}{S:List Nat} (h:∀q,q<i->f q=g q) (hs:Zbk f i S):Zbk g i S:=by
 refine⟨hs.1,λq=>(hs.2 q).trans ⟨λ⟨h1,h2⟩=>⟨h1,λr r1 r2=>by rw[<-h q h1,<-h r r2];exact h2 r r1 r2⟩,λ⟨h1,h2⟩=>⟨h1,λr r1 r2=>by rw[h q h1,h r r2];exact h2 r r1 r2⟩⟩⟩
theorem ZbA {f g:Nat->Int}{i p:Nat}{e:Int} (h:∀q,q<i->f q=g q) (hp:p<i) (he:Zy f i p e):Zy g i p e:=by
 have c1:ZaJ f p->ZaJ g p:=λz q hq=>by rw[<-h p hp,<-h q (by omega)];exact z q hq
 have c2:Zaw f i p->Zaw g i p:=λz r r1 r2=>by rw[<-h p hp,<-h r r2];exact z r r1 r2
 have c3:∀q,ZD f p q->ZD g p q:=λq ⟨z1,z2,z3⟩=>⟨z1,by rw[<-h p hp,<-h q (by omega)];exact z2,λr r1 r2=>by rw[<-h p hp,<-h r (by omega)];exact z3 r r1 r2⟩
 have c4:∀r,ZE f i p r->ZE g i p r:=λr ⟨z1,z2,z3,z4⟩=>⟨z1,z2,by rw[<-h p hp,<-h r z2];exact z3,λs s1 s2=>by rw[<-h p hp,<-h s (by omega)];exact z4 s s1 s2⟩
 rcases he with⟨a,b,c⟩|⟨q,a,b,c⟩|⟨r,a,b,c⟩|⟨q,r,a,b,c⟩
 ·exact .inl ⟨c1 a,c2 b,c⟩
 ·exact .inr (.inl ⟨q,c3 q a,c2 b,c⟩)
 ·exact .inr (.inr (.inl ⟨r,c1 a,c4 r b,c⟩))
 ·exact .inr (.inr (.inr ⟨q,r,c3 q a,c4 r b,by rw[<-h q (Nat.lt_trans a.1 hp),<-h r b.2.1];exact c⟩))
noncomputable def ZaG (ds:List Nat):Nat->Nat
 |0=>0
 |k+1=>ZaG ds k-ds.getD k 0+1
noncomputable def Zcc (ds:List Nat):Prop:=∀k,k<ds.length->ds.getD k 0<=ZaG ds k
theorem Zfv (ds:List Nat) (k:Nat):ZaG ds k<=k:=by
 induction k with
 |zero=>exact Yd _
 |succ k ih=>unfold ZaG;omega
theorem Zfw {α:Type} (S:List α) {d:Nat} (h:d<=S.length):∃A B,S=A++B/\B.length=d:=⟨S.take (S.length-d),S.drop (S.length-d),(Y7 _ _).symm,by simp;omega⟩
theorem ZjN (f:Nat->Int) (n p:Nat):Zaw f n p\/∃r,ZE f n p r:=by
 by_cases h:∀j,j<n-(p+1)->f p<=f (p+1+j)
 ·exact .inl λr h1 h2=>by
   have:=h (r-(p+1)) (by omega)
   rwa [show p+1+(r-(p+1))=r by omega]at this
 ·obtain⟨j,hj,h1,h2⟩:=ZgK _ h
  refine .inr ⟨p+1+j,by omega,by omega,by omega,λs s1 s2=>?_⟩
  have:=h2 (s-(p+1)) (by omega)
  rwa [show p+1+(s-(p+1))=s by omega]at this
theorem ZlH {X:Cx}{K:Frag} (hK:X.K=K):PGet X (rIxL K):=by
 subst hK
 intro pins s σ H x y v u Q I rx ry h
 obtain⟨p,xs,i,z,rfl,rfl,hq,he,q⟩:=h
 cases rx
 obtain⟨t,rfl⟩:=ry
 obtain⟨its,r,pl,hz⟩:=I.list hq
 obtain⟨j,h1,h2,h3,h4,h5⟩:=Zfg he
 obtain⟨w,ew,rw'⟩:=r.get h2
 have hl:=r.length
 have hn:=Zds
 have fin:EP X pins σ Q w s:=⟨z,H,I,rw',q⟩
 by_cases h0:0<=i
 ·have hj:i.toNat=j:=by
   rw[seqIndex_of h0 h5]at h1
   exact YA h1
  exact wpAny_getItem_list pl.isList h0 (by omega) (by rw[hj];simpa using ew) fin
 ·have hj:(i+(its.toArray.size:Int)).toNat=j:=by
   rw[seqIndex_neg (by omega) h4]at h1
   rw[Yv,<-hl]
   exact YA h1
  exact wpAny_getItem_list_neg pl.isList (by omega) (by rw[Yv]<;>omega) (by omega) (by rw[hj];simpa using ew) fin
noncomputable def Zhr (f:Nat->Int) (p k:Nat):Prop:=p<k/\f k<f p/\∀s,p<s->s<k->f p<=f s
theorem Zi5 {f:Nat->Int}{n p k:Nat} (hk:k<n):Zhr f p k↔ZE f n p k:=⟨λ⟨a,b,c⟩=>⟨a,hk,b,c⟩,λ⟨a,_,b,c⟩=>⟨a,b,c⟩⟩
open Classical in
noncomputable def ZaK (f:Nat->Int) (k:Nat):Nat:=(List.range k).countP λp=>decide (Zhr f p k)
theorem Zkw {B:List Nat}{n:Nat} (hB:B.Nodup) (hlt:∀q∈B,q<n):(List.range n).countP (λp=>decide (p∈B))=B.length:=by
 rw[List.countP_eq_length_filter]
 refine List.Perm.length_eq ((List.perm_ext_iff_of_nodup (List.nodup_range.filter _) hB).mpr λa=>?_)
 rw[YJ,Yr,decide_eq_true_iff]
 exact⟨λh=>h.2,λh=>⟨hlt a h,h⟩⟩
theorem Zcd {f:Nat->Int}{i:Nat}{A B:List Nat} (hs:Zbk f i (A++B)) (hA:∀q∈A,f q<=f i) (hB:∀q∈B,f i<f q):ZaK f i=B.length:=by
 have hm:∀p,Zhr f p i↔p∈B:=λp=>by
  constructor
  ·rintro⟨h1,h2,h3⟩
   rcases Ys.mp ((hs.2 p).mpr ⟨h1,h3⟩)with z|z
   ·have:=hA p z;omega
   ·exact z
  ·intro z
   obtain⟨h1,h2⟩:=(hs.2 p).mp (Yo _ z)
   exact⟨h1,hB p z,h2⟩
 have nd:B.Nodup:=(List.pairwise_append.mp hs.1).2.1.imp λh=>Yl h
 have hlt:∀q∈B,q<i:=λq hq=>((hs.2 q).mp (Yo _ hq)).1
 unfold ZaK
 rw[<-Zkw nd hlt]
 refine List.countP_congr λp _=>?_
 simp[hm p]
theorem Zd2 {f g:Nat->Int}{k:Nat} (h:∀q,q<=k->f q=g q):ZaK f k=ZaK g k:=by
 unfold ZaK
 refine List.countP_congr λp hp=>?_
 have hp:=Yr.mp hp
 simp only[decide_eq_true_eq]
 constructor
 ·rintro⟨a,b,c⟩
  exact⟨a,by rw[<-h k (Yd _),<-h p (by omega)];exact b,λs s1 s2=>by rw[<-h p (by omega),<-h s (by omega)];exact c s s1 s2⟩
 ·rintro⟨a,b,c⟩
  exact⟨a,by rw[h k (Yd _),h p (by omega)];exact b,λs s1 s2=>by rw[h p (by omega),h s (by omega)];exact c s s1 s2⟩
noncomputable def Zfx (n i:Nat) (S:List Nat) (es:List Int) (ds:List Nat):Prop:=∃f:Nat->Int,Zbk f i S/\S.Pairwise (λq r=>f q+2 ^ (n-i)<=f r)/\(∀p,p<i->Zy f i p (es.getD p 0))/\∀k,k<i->ZaK f k=ds.getD k 0
theorem Zi6 (n:Nat) (es:List Int) (ds:List Nat):Zfx n 0 [] es ds:=⟨λ_=>0,⟨List.Pairwise.nil,λq=>by simp⟩,List.Pairwise.nil,(λp hp=>by omega),λk hk=>by omega⟩
theorem Zfx.lt {n i:Nat}{S ds:List Nat}{es:List Int} (h:Zfx n i S es ds):∀q∈S,q<i:=by
 obtain⟨f,hS,_⟩:=h
 exact λq hq=>((hS.2 q).mp hq).1
theorem Zfx.step {n i:Nat}{A B ds:List Nat}{es:List Int} (h:Zfx n i (A++B) es ds) (hi:i<n) (hl:es.length=n) (he:es.getD i 0=-1) (hd:ds.getD i 0=B.length):Zfx n (i+1) (A++[i]) (ZbL es A B i) ds:=by
 have hlt:=h.lt
 obtain⟨f,hS,hg,hE,hD⟩:=h
 have eD:(2:Int) ^ (n-i)=2*2 ^ (n-(i+1)):=by
  rw[show n-i=n-(i+1)+1 by omega,Int.pow_succ,Int.mul_comm]
 have pD:(0:Int)<2 ^ (n-(i+1)):=Int.pow_pos (by decide)
 rw[eD]at hg
 generalize hDD:(2:Int) ^ (n-(i+1))=D at hg pD
 have hgA:=(List.pairwise_append.mp hg).1
 have hgB:=(List.pairwise_append.mp hg).2.1
 have hgX:=(List.pairwise_append.mp hg).2.2
 obtain⟨v,vA,vB⟩:∃v:Int,(∀q∈A,f q+D<=v)/\∀q∈B,v<f q:=by
  cases B with
  |cons b Br =>
   refine⟨f b-D,λq hq=>?_,λq hq=>?_⟩
   ·have:=hgX q hq b (by simp);omega
   ·rcases Yj.mp hq with rfl|hq
    ·omega
    ·have:=(YZ.mp hgB).1 q hq;omega
  |nil =>
   rcases snoc_cases A with rfl|⟨A',a,rfl⟩
   ·exact⟨0,(λq hq=>by cases hq),λq hq=>by cases hq⟩
   ·refine⟨f a+D,λq hq=>?_,λq hq=>by cases hq⟩
    rcases Ys.mp hq with hq|hq
    ·have:=(List.pairwise_append.mp hgA).2.2 q hq a (by simp);omega
    ·rw[YW.mp hq];omega
 have gi:(λq=>if q=i then v else f q) i=v:=Yc rfl
 have gq:∀q,q<i->(λq=>if q=i then v else f q) q=f q:=λq hq=>Yb (by omega)
 generalize (λq=>if q=i then v else f q)=g at gi gq
 have hag:∀q,q<i->f q=g q:=λq hq=>(gq q hq).symm
 have lA:∀q∈A,q<i:=λq hq=>hlt q (YN _ hq)
 have lB:∀q∈B,q<i:=λq hq=>hlt q (Yo _ hq)
 have sA:∀q∈A,g q<=g i:=λq hq=>by rw[gi,gq q (lA q hq)];have:=vA q hq;omega
 have sB:∀q∈B,g i<g q:=λq hq=>by rw[gi,gq q (lB q hq)];exact vB q hq
 have SS:=Zbl (f:=g) (i:=i) (A:=A) (B:=B) (Zbz hag hS) sA sB
 refine⟨g,SS.1,?_,λp hp=>?_,λk hk=>?_⟩
 ·rw[hDD]
  refine List.pairwise_append.mpr ⟨?_,List.pairwise_singleton _ _,λq hq r hr=>?_⟩
  ·refine hgA.imp_of_mem λ{q r} hq hr z=>?_
   rw[gq q (lA q hq),gq r (lA r hr)];omega
  ·rw[YW.mp hr,gi,gq q (lA q hq)];exact vA q hq
 ·have hbi:∀b,B.head?=some b->b≠i:=λb hb=>by
   have:=lB b (List.mem_of_head? hb);omega
  rw[Zby _ _ _ _ _ (by omega) hbi]
  by_cases z:p=i
  ·subst z
   rw[Yc rfl,he];exact SS.2.1
  ·rw[Yb z]
   exact SS.2.2 p _ (by omega) (ZbA hag (by omega) (hE p (by omega)))
 ·by_cases z:k=i
  ·subst z
   rw[hd];exact Zcd (Zbz hag hS) sA sB
  ·rw[<-Zd2 (f:=f) (g:=g) (k:=k) (λq hq=>hag q (by omega))]
   exact hD k (by omega)
noncomputable def Zn (ds:List Nat):Nat->List Nat×List Int
 |0=>([],List.replicate ds.length (-1))
 |i+1=>(((Zn ds i).1.take ((Zn ds i).1.length-ds.getD i 0))++[i],ZbL (Zn ds i).2 ((Zn ds i).1.take ((Zn ds i).1.length-ds.getD i 0)) ((Zn ds i).1.drop ((Zn ds i).1.length-ds.getD i 0)) i)
noncomputable def Za9 (ds:List Nat):List Int:=(Zn ds ds.length).2
theorem ZcG {ds:List Nat}{i:Nat}{A B:List Nat} (h:(Zn ds i).1=A++B) (hB:B.length=ds.getD i 0):Zn ds (i+1)=(A++[i],ZbL (Zn ds i).2 A B i):=by
 have e:(Zn ds i).1.length-ds.getD i 0=A.length:=by rw[h,Yu];omega
 show(((Zn ds i).1.take ((Zn ds i).1.length-ds.getD i 0))++[i],ZbL (Zn ds i).2 ((Zn ds i).1.take ((Zn ds i).1.length-ds.getD i 0)) ((Zn ds i).1.drop ((Zn ds i).1.length-ds.getD i 0)) i)=_
 rw[e,h,List.take_left,List.drop_left]
theorem Zes {ds:List Nat} (h:Zcc ds):∀i,i<=ds.length->Zfx ds.length i (Zn ds i).1 (Zn ds i).2 ds/\(Zn ds i).1.length=ZaG ds i/\(Zn ds i).2.length=ds.length/\∀p,i<=p->p<ds.length->(Zn ds i).2.getD p 0=-1
 |0,_=>⟨Zi6 _ _ _,rfl,by simp[Zn],λp _ hp=>by simp[Zn,Yg,hp]⟩
 |i+1,hi=>by
  obtain⟨h1,h2,h3,h4⟩:=Zes h i (by omega)
  have hd:=h i (by omega)
  obtain⟨A,B,hAB,hBl⟩:=Zfw (Zn ds i).1 (d:=ds.getD i 0) (by omega)
  rw[ZcG hAB hBl]
  rw[hAB]at h1
  have hlt:=h1.lt
  have hbi:∀b,B.head?=some b->b≠i:=λb hb=>by
   have:=hlt b (Yo _ (List.mem_of_head? hb));omega
  refine⟨h1.step (by omega) h3 (h4 i (Yd _) (by omega)) hBl.symm,?_,by rw[ZcF];exact h3,λp p1 p2=>?_⟩
  ·have:=congrArg List.length hAB
   rw[Yu]at this
   show(A++[i]).length=ZaG ds i-ds.getD i 0+1
   rw[Yu,List.length_singleton];omega
  ·show(ZbL (Zn ds i).2 A B i).getD p 0=-1
   rw[Zby _ _ _ _ _ (by omega) hbi,Yb (by omega),Yb (λz=>?_)]
   ·exact h4 p (by omega) p2
   ·have:=hlt p (Yo _ (List.mem_of_head? z));omega
theorem Zkx {ds:List Nat} (h:Zcc ds):(Za9 ds).length=ds.length:=(Zes h _ (Yd _)).2.2.1
theorem Zi7 {ds:List Nat} (h:Zcc ds):∃ns,Zp ns (Za9 ds)/\∀k,k<ds.length->ZaK (nth ns) k=ds.getD k 0:=by
 obtain⟨⟨f,_,_,hE,hD⟩,_,hl,_⟩:=Zes h _ (Yd _)
 have ln:((List.range ds.length).map f).length=ds.length:=by simp
 refine⟨(List.range ds.length).map f,⟨by rw[ln];exact hl,λp hp=>?_⟩,λk hk=>?_⟩
 ·rw[ln]at hp⊢
  exact ZbA (f:=f) (λq hq=>(Zad hq).symm) hp (hE p hp)
 ·rw[<-hD k hk]
  exact(Zd2 λq hq=>(Zad (show q<ds.length by omega)).symm).symm
theorem ZcH {f:Nat->Int}{n k:Nat} (hk:k<n):(List.range n).countP (λp=>decide (Zas f n p=(k:Int)))=ZaK f k:=by
 have key:∀p,Zas f n p=(k:Int)↔Zhr f p k:=λp=>by
  rw[Zi5 hk]
  rcases ZjN f n p with h|⟨r,h⟩
  ·rw[Zfi h]
   exact⟨λz=>by omega,λz=>by have:=h k z.1 z.2.1;have:=z.2.2.1;omega⟩
  ·rw[Zdc h]
   constructor
   ·intro z
    have:r=k:=by omega
    exact this▸h
   ·intro z
    rcases Nat.lt_trichotomy r k with y|y|y
    ·have:=z.2.2.2 r h.1 y;have:=h.2.2.1;omega
    ·rw[y]
    ·have:=h.2.2.2 k z.1 y;have:=z.2.2.1;omega
 unfold ZaK
 have e:List.range n=List.range k++(List.range (n-k)).map (k+·):=by
  have:=List.range_add (n:=k) (m:=n-k)
  rw[show k+(n-k)=n by omega]at this
  exact this
 rw[e,List.countP_append]
 have z:((List.range (n-k)).map (k+·)).countP (λp=>decide (Zas f n p=(k:Int)))=0:=by
  rw[List.countP_eq_zero]
  intro p hp
  obtain⟨q,_,rfl⟩:=YD.mp hp
  simp only[decide_eq_true_eq,key]
  rintro⟨a,_⟩
  omega
 rw[z,Nat.add_zero]
 refine List.countP_congr λp _=>?_
 simp only[decide_eq_true_eq,key]
noncomputable def Zu (f:Nat->Int) (n:Nat):List Nat:=(List.range n).map (ZaK f)
theorem ZY (f:Nat->Int) (n:Nat):(Zu f n).length=n:=by simp[Zu]
theorem Zet {f:Nat->Int}{n k:Nat} (h:k<n):(Zu f n).getD k 0=ZaK f k:=by simp[Zu,Yg,h]
theorem Zi8 {ns ms T:List Int} (h1:Zp ns T) (h2:Zp ms T) {p:Nat} (hp:p<ns.length):Zas (nth ns) ns.length p=Zas (nth ms) ms.length p:=by
 have e:ns.length=ms.length:=h1.1.symm.trans h2.1
 have F2:=Zib h2 (show p<ms.length by omega)
 have hL:∀a∈(Zcz T p).filter λo=>decide ((p:Int)<o),∃o:Nat,a=o/\p<o/\o<ns.length/\Over (nth ns) o p:=λa ha=>by
  obtain⟨h3,h4⟩:=YJ.mp ha
  obtain⟨o,ho,rfl⟩:=YD.mp h3
  have:=(Zh7 h1 hp).mp ho
  have h4:=of_decide_eq_true h4
  exact⟨o,rfl,by omega,this.1,this.2⟩
 rcases ZjN (nth ns) ns.length p with h|⟨r,h⟩
 ·rw[Zfi h,F2.1 (List.eq_nil_iff_forall_not_mem.mpr λa ha=>?_),e]
  obtain⟨o,_,h3,h4,h5⟩:=hL a ha
  have:=h o h3 h4
  rcases h5 with⟨h6,_⟩|⟨_,h6⟩
  ·omega
  ·have:=h6 p (Yd _) h3;omega
 ·rw[Zdc h]
  have hr:(r:Int)∈(Zcz T p).filter λo=>decide ((p:Int)<o):=YJ.mpr ⟨(Zfh h1 hp).mpr ⟨h.2.1,h.over⟩,Y2 (by have:=h.1;omega)⟩
  refine F2.2 (List.ne_nil_of_mem hr) _ hr λa ha=>?_
  obtain⟨o,rfl,h3,h4,h5⟩:=hL a ha
  by_cases z:o<r
  ·have:=h.2.2.2 o h3 z
   rcases h5 with⟨h6,_⟩|⟨_,h6⟩
   ·omega
   ·have:=h6 p (Yd _) h3;omega
  ·omega
theorem Zic {ns ms T:List Int} (h1:Zp ns T) (h2:Zp ms T) {k:Nat} (hk:k<ns.length):ZaK (nth ns) k=ZaK (nth ms) k:=by
 have e:ns.length=ms.length:=h1.1.symm.trans h2.1
 rw[<-ZcH hk,<-ZcH (show k<ms.length by omega),e]
 refine List.countP_congr λp hp=>?_
 have hp:=Yr.mp hp
 have:=Zi8 h1 h2 (show p<ns.length by omega)
 rw[e]at this
 simp only[decide_eq_true_eq,this]
theorem Zce {ns ms T:List Int} (h1:Zp ns T) (h2:Zp ms T):Zu (nth ns) ns.length=Zu (nth ms) ms.length:=by
 have e:ns.length=ms.length:=h1.1.symm.trans h2.1
 unfold Zu
 rw[<-e]
 exact List.map_congr_left λk hk=>Zic h1 h2 (Yr.mp hk)
theorem ZeS (f:Nat->Int) (n:Nat):∀k,k<=n->∃S,Zbk f k S/\S.length=ZaG (Zu f n) k
 |0,_=>⟨[],⟨List.Pairwise.nil,λq=>by simp⟩,rfl⟩
 |k+1,h=>by
  obtain⟨S,hS,hl⟩:=ZeS f n k (by omega)
  obtain⟨A,B,rfl,hA,hB⟩:=Zd1 (f:=f) (f k) S hS.mono
  refine⟨A++[k],(Zbl hS hA hB).1,?_⟩
  show _=ZaG (Zu f n) k-(Zu f n).getD k 0+1
  rw[Zet (by omega),Zcd hS hA hB,<-hl,Yu,Yu,List.length_singleton]
  omega
theorem ZgN (f:Nat->Int) (n:Nat):Zcc (Zu f n):=by
 intro k hk
 rw[ZY]at hk
 obtain⟨S,hS,hl⟩:=ZeS f n k (by omega)
 obtain⟨A,B,rfl,hA,hB⟩:=Zd1 (f:=f) (f k) S hS.mono
 rw[Zet hk,Zcd hS hA hB,<-hl,Yu]
 omega
end L2
namespace L2
open PySem PySem.Spec PyProof.Rows PySem.W
section
variable {X:Cx}
noncomputable def rMulS:R2:=λx y H Q=>∃(i:Str) (n:Int),x=.str i/\y=.int n/\-1000<=n/\n<=1000/\i.length<=1000/\Q (.str (Txt.mul i n)) H
theorem ZjO:OpR X (binaryOp .Mult) rMulS:=by
 intro pins s σ H x y v u Q I rx ry h
 obtain⟨i,n,rfl,rfl,h1,h2,h3,q⟩:=h
 obtain⟨t,rfl⟩:=rx
 obtain⟨t',rfl⟩:=ry
 refine SB.mul ⟨?_,λ_ _=>?_,λ_ _=>?_⟩ λt' k=>⟨.str (Txt.mul i n),H,I.tok _,⟨_,rfl⟩,q⟩
 ·simp;omega
 ·intro z
  have hn:1<=n:=by omega
  have h4:(1000:Int)<=(2 ^ 63-1) / n:=Int.le_ediv_of_mul_le (by omega) (by omega)
  omega
 ·unfold Builtin.Str.tooLong
  have h4:i.length*n.toNat<=1000*1000:=Nat.mul_le_mul h3 (by omega)
  simp only[decide_eq_false_iff_not,Nat.not_lt]
  exact Yn h4 (by decide)
noncomputable def rJoin (K:Frag):V->List V->Hp->VK->Prop:=λx xs H Q=>∃(sep:Str) (a:Addr) (ss:List Str),x=.str sep/\xs=[.ref a]/\SqL K H a (ss.map V.str)/\JoinOk sep ss=true/\Q (.str (Txt.join sep ss)) H
theorem ZgO:∀{ss:List Str}{us:List Value},Vals (ss.map V.str) us->∃l:List (Str×Tok),us=strValues l/\l.map (·.1)=ss
 |[],_,.nil=>⟨[],rfl,rfl⟩
 |x::ss,_,.cons ⟨t,e⟩ r=>by
  obtain⟨l,h1,h2⟩:=ZgO r
  subst e
  exact⟨(x,t)::l,by rw[h1];rfl,by simp[h2]⟩
theorem ZjP {K:Frag} (hK:X.K=K):MtR X "str.join" (rJoin K):=by
 subst hK
 intro pins s σ H x vs v us Q I rx rv h
 obtain⟨sep,a,ss,rfl,rfl,hH,hl,q⟩:=h
 obtain⟨t,rfl⟩:=rx
 obtain⟨u,rfl,ru⟩:=rv.one
 cases(show u=Value.ref a from ru)
 obtain⟨its,r,p,hz⟩:=I.list hH
 obtain⟨l,rfl,rfl⟩:=ZgO r
 exact SC.join p.isList rfl hl λt' k=>⟨.str _,H,I.tok _,⟨_,rfl⟩,q⟩
noncomputable def Its (x:Str):It:=⟨λi _=>i<x.cps.size,λi H v H'=>H'=H/\∃c,x.cps[i]?=some c/\v=.str ⟨#[c]⟩,λi _=>x.cps.size<=i⟩
theorem ZlI {P:Program}{w:World}{K:PySem.W.Frag}{tg:Expr} (it:Addr) (x:Str) (t:Tok):Turn P w K tg (Its x) [it] it (λi h=>h.IsStrIter it "str_ascii_iterator" x t i/\i<=x.cps.size) where
 mem:=by simp
 obj:=λi h st b hb=>by
  have e:b=it:=by simpa using hb
  subst e
  obtain⟨⟨o,e,c,d⟩,_⟩:=st
  exact⟨o,e,λv z=>by rw[d]at z;cases z⟩
 keep:=λi h h' st k=>by
  obtain⟨⟨o,e,r⟩,q⟩:=st
  exact⟨⟨o,k it (by simp) o e,r⟩,q⟩
 item:=by
  intro X hP hw hK hc i pins s σ H E I hf st hg
  subst hP hw hK
  obtain⟨f0,f1,f2,f3,f4,f5⟩:=hf it (by simp)
  have hg:i<x.cps.size:=hg
  have W:=Walks.strAscii (prog:=X.prog) (w:=X.w) (I.ok.hd hc) it x t
  refine W.item i s _ _ hg st.1 λv h' tk hv st' kk=>?_
  obtain⟨c,u,hc',rfl⟩:=hv
  have I1:Inv X pins σ H {s with heap:=h',toks:=tk}:=I.turned (λb o hb e=>kk b o (by simpa using hb) e) f0 f1 f3 f4 f5
  obtain⟨o,e,cl,d⟩:=id st'
  exact⟨_,rfl,Zjt (s:={s with heap:=h',toks:=tk}) (n:="str_ascii_iterator") e cl d (by decide) ⟨.str ⟨#[c]⟩,H,I1,⟨u,rfl⟩,⟨rfl,c,hc',rfl⟩,⟨st',hg⟩,λb hb=>(hf b hb).1⟩⟩
 done:=by
  intro X hP hw hK hc i pins s σ H E I hf st hg
  subst hP hw hK
  obtain⟨f0,f1,f2,f3,f4,f5⟩:=hf it (by simp)
  have hg:x.cps.size<=i:=hg
  have hi:i=x.cps.size:=by have:=st.2;omega
  subst hi
  exact wpAny_pyNext_ascii_end (I.ok.hd hc) st.1 (by simp) λh' eb=>⟨rfl,I.turned (t':=s.toks) (λb o hb e=>eb b o hb e) f0 f1 f3 f4 f5⟩
 self:=λ_ _ _ _ _ st h=>wpAny_pyIter_striter_ascii st.1 h
noncomputable def iStr (tl:TE):TI:=fun σ H R=>tl σ H λx H1=>∃y:Str,x=.str y/\y.cps.all (·<128)=true/\R (Its y) H1
theorem pi_str {tg l:Expr}{tl:TE} (hl:PE X l tl):PI X tg l (iStr tl):=by
 intro pins s σ H R I h
 refine thn (hl pins s σ H _ I h) λv s1 ⟨x,H1,I1,r1,q1⟩=>?_
 obtain⟨y,e,ha,q⟩:=q1
 subst e
 obtain⟨t,rfl⟩:=r1
 refine wpAny_pyIter_ascii ha ?_
 refine⟨s1.heap.objs.size,[s1.heap.objs.size],_,_,H1,rfl,I1.kept (t':=s1.toks) λb o e=>Ym _ e,ZlI _ y t,⟨⟨_,Yy _ rfl,rfl,rfl⟩,Yp _⟩,λb hb=>?_,q⟩
 have e:b=s1.heap.objs.size:=by simpa using hb
 subst e
 exact I1.fpOk (Yd _) (I1.hok.fresh (Yd _))
end
noncomputable def txt (l:List Nat):Str:=⟨l.toArray⟩
theorem Zbc (l:List Nat):(txt l).length=l.length:=by simp[txt,Str.length]
theorem Zd3:Str.ofString "("=txt [40]:=by decide +kernel
theorem Zan:Str.ofString ")"=txt [41]:=by decide +kernel
theorem Zd4 (a b:List Nat):txt a++txt b=txt (a++b):=by
 show Str.append _ _=_
 simp[txt,Str.append]
theorem Zhs {a b:List Nat} (h:txt a=txt b):a=b:=by
 unfold txt at h
 injection h with h
 simpa using congrArg Array.toList h
theorem ZgP:∀(n:Nat) (a x:Array Nat),((List.replicate n x).foldl (·++·) a).toList=a.toList++(List.replicate n x.toList).flatten
 |0,a,x=>by simp
 |n+1,a,x=>by
  rw[List.replicate_succ,List.foldl_cons,ZgP n]
  simp[List.replicate_succ]
theorem Zfj (c:Nat) (n:Int):Txt.mul (txt [c]) n=txt (List.replicate n.toNat c):=by
 unfold Txt.mul
 by_cases h:n<1
 ·rw[Yc h,show n.toNat=0 by omega];rfl
 ·rw[Yb h]
  by_cases h1:n=1
  ·subst h1;rfl
  ·rw[Yb (by simp[txt,Str.length,h1])]
   unfold txt
   congr 1
   apply Array.toList_inj.mp
   rw[ZgP]
   simp
theorem Zid:∀ls:List (List Nat),Str.join (Str.ofString "") (ls.map txt)=txt ls.flatten
 |[]=>rfl
 |[l]=>by simp[Str.join]
 |l::m::ls=>by
  show txt l++Str.ofString ""++Str.join (Str.ofString "") ((m::ls).map txt)=_
  rw[Zid (m::ls),show Str.ofString ""=txt [] by decide +kernel,Zd4,Zd4]
  simp
theorem Zeu (ls:List (List Nat)):Txt.join (Str.ofString "") (ls.map txt)=txt ls.flatten:=by
 show Builtin.Str.glued _ _=_
 rw[StrLaws.glued_eq_join,Zid]
theorem Zfy {ls:List (List Nat)} (h:ls.flatten.length<=100000):JoinOk (Str.ofString "") (ls.map txt)=true:=by
 unfold JoinOk Builtin.Str.tooLong
 rw[StrLaws.joinTotal]
 have e:((ls.map txt).map (·.length)).sum=ls.flatten.length:=by
  simp[List.length_flatten,YU,Function.comp_def,Zbc]
 rw[e,show(Str.ofString "").length=0 by decide +kernel]
 simp only[Nat.mul_zero,Nat.add_zero,Bool.not_eq_true',decide_eq_false_iff_not,Nat.not_lt,gt_iff_lt]
 exact Yn h (by decide)
noncomputable def Za2 (ds:List Nat):List Nat:=(ds.map λd=>List.replicate d 41++[40]).flatten
noncomputable def braT (ds:List Nat):List Nat:=Za2 ds++List.replicate (ds.length-ds.sum) 41
theorem Zd5:∀ds:List Nat,(Za2 ds).length=ds.sum+ds.length
 |[]=>rfl
 |d::ds=>by
  have:=Zd5 ds
  unfold Za2 at this⊢
  simp only[YC,List.flatten_cons,Yu,List.length_replicate,List.length_singleton,List.sum_cons,Yz,List.length_nil,this]
  omega
noncomputable def Zo (p:List Nat×Nat) (c:Nat):List Nat×Nat:=if c=40 then (p.1++[p.2],0)else (p.1,p.2+1)
theorem Zi9 {α β:Type} (g:β->α->β) (b:β) {l:List α}{i:Nat}{c:α} (h:l[i]?=some c):(l.take (i+1)).foldl g b=g ((l.take i).foldl g b) c:=by
 rw[YO,h,List.foldl_append];rfl
theorem ZgQ {ds:List Nat} (h:Zcc ds):∀k,k<=ds.length->ZaG ds k+(ds.take k).sum=k
 |0,_=>by simp[ZaG]
 |k+1,hk=>by
  have ih:=ZgQ h k (by omega)
  have hd:=h k (by omega)
  rw[YO,List.sum_append]
  have e:ds[k]?=some (ds.getD k 0):=by simp[Yg,show k<ds.length by omega]
  rw[e]
  show ZaG ds k-ds.getD k 0+1+_=_
  simp only[Option.toList_some,List.sum_singleton]
  omega
theorem Zht {ds:List Nat} (h:Zcc ds):ds.sum<=ds.length:=by
 have:=ZgQ h ds.length (Yd _)
 rw[List.take_length]at this;omega
theorem Zfz (ns:List Int):∀i,i<=ns.length->∃S es,Zn (Zu (nth ns) ns.length) i=(S,es)/\Zbk (nth ns) i S/\es.length=ns.length/\(∀p,p<i->Zy (nth ns) i p (es.getD p 0))/\∀p,i<=p->p<ns.length->es.getD p 0=-1
 |0,_=>⟨[],List.replicate (Zu (nth ns) ns.length).length (-1),rfl,⟨List.Pairwise.nil,λq=>by simp⟩,by simp[ZY],λp hp=>by omega,λp _ hp=>by simp[Yg,ZY,hp]⟩
 |i+1,hi=>by
  obtain⟨S,es,h1,hS,hl,hE,hE2⟩:=Zfz ns i (by omega)
  obtain⟨A,B,rfl,hA,hB⟩:=Zd1 (f:=nth ns) (nth ns i) S hS.mono
  have SS:=Zbl hS hA hB
  have hB':B.length=(Zu (nth ns) ns.length).getD i 0:=by rw[Zet (by omega),Zcd hS hA hB]
  have st:=ZcG (ds:=Zu (nth ns) ns.length) (i:=i) (A:=A) (B:=B) (by rw[h1]) hB'
  rw[h1]at st
  have hmem:∀q∈A++B,q<i:=λq hq=>((hS.2 q).mp hq).1
  have hbi:∀b,B.head?=some b->b≠i:=λb hb=>by
   have:=hmem b (Yo _ (List.mem_of_head? hb));omega
  refine⟨A++[i],ZbL es A B i,st,SS.1,by rw[ZcF];exact hl,λp hp=>?_,λp hp1 hp2=>?_⟩
  ·rw[Zby _ _ _ _ _ (by omega) hbi]
   by_cases z:p=i
   ·subst z
    rw[Yc rfl,hE2 p (Yd _) (by omega)]
    exact SS.2.1
   ·rw[Yb z]
    exact SS.2.2 p _ (by omega) (hE p (by omega))
  ·rw[Zby _ _ _ _ _ (by omega) hbi,Yb (by omega),Yb (λz=>?_)]
   ·exact hE2 p (by omega) hp2
   ·have:=hmem p (Yo _ (List.mem_of_head? z));omega
theorem ZgR {ns T:List Int} (h:Zp ns T):Za9 (Zu (nth ns) ns.length)=T:=by
 obtain⟨S,es,h1,_,hl,hE,_⟩:=Zfz ns ns.length (Yd _)
 unfold Za9
 rw[ZY,h1]
 exact Zp.unique (ns:=ns) ⟨hl,λp hp=>hE p hp⟩ h
theorem Zja {prog:Program}{w:World}{A:Around}{E Q:Value->Shared->Prop}{s:Shared}{l:Addr}{xs:Array (Int×Tok)} (hA:A.handled=none) (hl:s.heap.IsTuple l (intItems xs))
  (h:∀h' tk t',(∀b o,s.heap.get? b=some o->h'.get? b=some o)->Q (.int (preSum (numAt xs) xs.size) t') {s with heap:=h',toks:=tk}) :
  wpAny (model prog w) A (call (.builtin "sum") [.ref l]) Q E s:=by
 have hlt:l<s.heap.objs.size:=by obtain⟨o,e,_⟩:=hl;exact Yi e
 refine call_sum_walkG (wpAny_pyIter_tuple hl ?_)
 refine⟨_,_,_,_,_,_,numAt xs,rfl,Walks.tuple (A:=A.in1) hA s.heap.objs.size l (Yl hlt) (intItems xs),⟨⟨_,Yy _ rfl,rfl,rfl⟩,hl.push _⟩,λb hb=>?_,λ_ _=>intItems_at,λh' tk t' hk=>?_⟩
 ·have e:(s.heap.push {cls:=.type "tuple_iterator",data:=.fields #[.ref l,.int 0 0]}).objs.size=s.heap.objs.size+1:=Heap.size_push ..
  show b<(s.heap.push _).objs.size
  rw[e]
  simp only[Yj,List.not_mem_nil,or_false]at hb
  rcases hb with rfl|rfl
  ·exact Nat.lt_succ_self _
  ·exact YS hlt
 ·have:=h h' tk t' λb o e=>hk b o (λhm=>by
   have eb:b=s.heap.objs.size:=by simpa using hm
   exact absurd (Yi e) (by rw[eb];exact YG _)) (Ym _ e)
  simpa[intItems]using this
noncomputable def rSumT (K:Frag):List V->Hp->VK->Prop:=λxs H Q=>∃(p:Addr) (ns:List Int),xs=[.ref p]/\SqT K H p (ns.map V.int)/\Q (.int ns.sum) H
theorem Zky {X:Cx}{K:Frag} (hK:X.K=K) (hc:X.calm=true):Za7 X (.builtin "sum") (rSumT K):=by
 subst hK
 intro pins s σ H xs us Q I r h
 obtain⟨p,ns,rfl,hp,q⟩:=h
 obtain⟨u,rfl,ru⟩:=r.one
 cases(show u=Value.ref p from ru)
 obtain⟨its,rv,pl,hz⟩:=I.tuple hp
 obtain⟨ys,e1,e2⟩:=ZdS rv
 refine Zja (xs:=ys) (I.ok.hd hc) (e1▸pl) λh' tk t' k=>⟨.int ns.sum,H,I.kept k,⟨t',?_⟩,q⟩
 congr 1
 rw[preSum_eq,<-e2,List.take_of_length_le (by simp)]
theorem ZgS (ds:List Nat):Zr ds=(ds.map λ(d:Nat)=>(d:Int)).map V.int:=by simp[Zr,Function.comp_def]
theorem ZaY:∀ds:List Nat,(ds.map λ(d:Nat)=>(d:Int)).sum=((ds.sum:Nat):Int)
 |[]=>rfl
 |d::ds=>by rw[YC,List.sum_cons,List.sum_cons,ZaY ds];omega
section
variable {X:Cx}
noncomputable def rCountS:V->List V->Hp->VK->Prop:=λx xs H Q=>∃a b:Str,x=.str a/\xs=[.str b]/\Q (.int (Txt.count a b)) H
theorem Zev:MtR X "str.count" rCountS:=by
 intro pins s σ H x vs v us Q I rx rv h
 obtain⟨a,b,rfl,rfl,q⟩:=h
 obtain⟨t,rfl⟩:=rx
 obtain⟨u,rfl,t',rfl⟩:=rv.one
 exact SC.count ⟨.int _,H,I.tok _,⟨_,rfl⟩,q⟩
noncomputable def rLenS:List V->Hp->VK->Prop:=λxs H Q=>∃a:Str,xs=[.str a]/\a.length<=sizeLine/\Q (.int (a.length:Nat)) H
theorem Zkz:Za7 X (.builtin "len") rLenS:=by
 intro pins s σ H xs us Q I r h
 obtain⟨a,rfl,hz,q⟩:=h
 obtain⟨u,rfl,t,rfl⟩:=r.one
 have hn:=Zds
 exact P.len_str (by omega) ⟨.int _,H,I.tok _,⟨_,rfl⟩,q⟩
end
theorem Zew (s:Str) (c hi limit:Nat):∀(l:List Nat) (st:Array Nat×Nat),(∀i∈l,st.2<=i)->l.Pairwise (· < ·)->st.1.size+l.length<=limit ->
  (forIn l st (StrLaws.occBody s ⟨#[c]⟩ hi limit)).run.fst.size=st.1.size+l.countP (λi=>decide (i+1<=hi/\Builtin.Str.subAt s ⟨#[c]⟩ i=true))
 |[],st,_,_,_=>by simp
 |a::l,st,hf,hp,hl=>by
  rw[List.forIn_cons]
  unfold StrLaws.occBody
  have ha:st.2<=a:=hf a (YM ..)
  have hpl:=YZ.mp hp
  rw[Yz]at hl
  have e1:(⟨#[c]⟩:Str).length=1:=rfl
  rw[e1,List.countP_cons]
  by_cases hc:a+1<=hi/\Builtin.Str.subAt s ⟨#[c]⟩ a=true
  ·rw[Yc ⟨⟨⟨by omega,ha⟩,hc.1⟩,hc.2⟩,Yc (Y2 hc)]
   have:=Zew s c hi limit l (st.1.push a,a+1) (λi hi'=>by have:=hpl.1 i hi';show a+1<=i;omega) hpl.2 (by simp;omega)
   rw[show(pure (ForInStep.yield (st.1.push a,a+1)):Id _)=ForInStep.yield (st.1.push a,a+1)from rfl]
   show(forIn l (st.1.push a,a+1) (StrLaws.occBody s ⟨#[c]⟩ hi limit)).run.fst.size=_
   rw[this,Array.size_push];omega
  ·rw[Yb (λh=>hc ⟨h.1.2,h.2⟩),Yb (by simpa using hc)]
   have:=Zew s c hi limit l st (λi hi'=>hf i (YK _ hi')) hpl.2 (by omega)
   show(forIn l (st.1,st.2) (StrLaws.occBody s ⟨#[c]⟩ hi limit)).run.fst.size=_
   rw[this];omega
theorem Zex (l:List Nat) (c:Nat):(List.range l.length).countP (λi=>decide (l[i]?=some c))=l.countP (λx=>decide (x=c)):=by
 induction l with
 |nil=>rfl
 |cons a l ih =>
  rw[Yz,List.range_succ_eq_map,List.countP_cons,List.countP_map,List.countP_cons]
  have e:(List.range l.length).countP ((λi=>decide ((a::l)[i]?=some c)) ∘ Nat.succ)=(List.range l.length).countP (λi=>decide (l[i]?=some c)):=List.countP_congr λi _=>by simp
  rw[e,ih];simp
theorem ZkA (l:List Nat) (c:Nat):Txt.count (txt l) (txt [c])=((l.countP λx=>decide (x=c):Nat):Int):=by
 unfold Txt.count
 rw[StrLaws.occ_eq]
 congr 1
 rw[Yk]
 have hl:(txt l).length=l.length:=Zbc l
 rw[hl]
 have h:=Zew (txt l) c l.length (l.length+1) (List.range' 0 (l.length+1-0)) (#[],0) (λi _=>Yp _) (List.pairwise_lt_range' ..) (by simp)
 refine Eq.trans (show _=_ from h) ?_
 rw[Nat.sub_zero,<-List.range_eq_range',YR,List.countP_append]
 have e1:(List.countP (λi=>decide (i+1<=l.length/\Builtin.Str.subAt (txt l) ⟨#[c]⟩ i=true)) [l.length])=0:=by
  rw[List.countP_eq_zero]
  intro a ha
  have:a=l.length:=by simpa using ha
  rw[this,decide_eq_true_iff]
  intro z
  omega
 rw[e1,<-Zex]
 have e2:(List.range l.length).countP (λi=>decide (i+1<=l.length/\Builtin.Str.subAt (txt l) ⟨#[c]⟩ i=true))=(List.range l.length).countP (λi=>decide (l[i]?=some c)):=by
  refine List.countP_congr λi hi=>?_
  have hi':=Yr.mp hi
  have:=StrLaws.subAt_one (txt l) c i
  rw[decide_eq_true_iff,decide_eq_true_iff]
  have e:(txt l).cps.toList[i]?=l[i]?:=by simp[txt]
  rw[e]at this
  rw[<-this,hl];rfl
 rw[e2];simp
theorem ZfA {ns ms S T:List Int} (h1:Zp ns S) (h2:Zp ms T) (h:Zu (nth ns) ns.length=Zu (nth ms) ms.length):S=T:=by
 rw[<-ZgR h1,<-ZgR h2,h]
end L2
namespace L2
noncomputable def Ok:Nat->List Nat->Prop
 |_,[]=>True
 |st,d::ds=>d<=st/\Ok (st-d+1) ds
end L2
namespace L2
open PySem PySem.Spec PyProof.Rows PySem.W
end L2
namespace L2
open PySem PySem.Spec PyProof.Rows PySem.W
end L2
namespace L2
open PySem PySem.Spec PyProof.Rows
end L2
namespace L2
open PySem PySem.Spec PyProof.Rows PySem.W PySem.Calls
end L2
namespace L2
open PySem PySem.Spec PyProof.Rows PySem.W
section
variable {X:Cx}{a:Expr}{ta:TE}{pos:Pos}
theorem Zm1 {pins:List (Addr×Obj)}{σ:St}{H:Hp}{s:Shared}{Q:VK}{us:List Value}{vs:List V}{k:Nat}{f:Addr}{fd:FuncData}{ps:List Str}{sp:Sp}{E:XK} (F:FnOk X.prog X.w X.K X.mg X.base (CXE X.prog X.w) k f fd ps sp) (hr:Room k X.A) (hb:Binds X.K fd ps []) (hx:∀ev s',CXE X.prog X.w X.stack H s E ev s'->X.xe ev s')
  (I:Inv X pins σ H s) (r:Vals vs us) (h:sp vs H Q E):wpAny (model X.prog X.w) X.A (call (.ref f) us) (EP X pins σ Q) X.xe s:=by
 have hl:us.length=ps.length:=by rw[<-r.length];exact F.len _ _ _ _ h
 have hbb:=hb s us I.kIn (by simpa using hl)
 rw[List.append_nil]at hbb
 refine wpAny_call (codeAny_mono (F.run X.A X.stack s H ⟨us,[]⟩ us vs Q E hr I.env0 hbb r h) λr s' hq=>?_)
 cases r with
 |error ev=>exact hx ev s' hq
 |ok fl =>
  cases fl with
  |ret u=>exact I.after hq
  |next=>exact False.elim hq
  |brk=>exact False.elim hq
  |cont=>exact False.elim hq
end
end L2
namespace L2
open PySem PySem.Spec PyProof.Rows PySem.W PySem.Calls
end L2
namespace L2
open PySem PySem.Spec PyProof.Rows PySem.W
section
variable {ky:Keyed->Int}
noncomputable def Srt (ky:Keyed->Int) (l:List Keyed):Prop:=l.Pairwise (λx y=>ky x<=ky y)
variable {a b out:List Keyed}{ia ib:Nat}
noncomputable def Gd (ky:Keyed->Int) (a b res:List Keyed):Prop:=res.Perm (a++b)/\Srt ky res
variable {prog:Program}{w:World}{A:Around}{E:Value->Shared->Prop}{s:Shared}{κ:SortKind}{P:Keyed->Prop}
end
section
variable {ky:Keyed->Int}
noncomputable def kp (ky:Keyed->Int) (a:Array Keyed) (i:Nat):Int:=ky (a.getD i (Value.none,Value.none))
theorem kp_at {a:Array Keyed}{i:Nat} (h:i<a.size):kp ky a i=ky a[i]:=by unfold kp;simp[Array.getD,h]
noncomputable def SoR (ky:Keyed->Int) (a:Array Keyed) (l r:Nat):Prop:=∀i j,l<=i->i<=j->j<r->kp ky a i<=kp ky a j
structure Chg (a a':Array Keyed) (l r:Nat):Prop where
 perm:a'.Perm a
 same:∀i,i<l\/r<=i->a'[i]?=a[i]?
variable {prog:Program}{w:World}{A:Around}{E:Value->Shared->Prop}{s:Shared}{κ:SortKind}{P:Keyed->Prop}
end
section
variable {ky:Keyed->Int}
variable {a a':Array Keyed}
theorem ZjQ (base:Nat):∀(m:List Keyed) (n:Nat) (a:Array Keyed),base+n+m.length<=a.size ->
  (List.foldl (λ(a:Array Keyed) (x:Keyed×Nat)=>a.setIfInBounds (base+x.2) x.1) a (m.zipIdx n)).toList=a.toList.take (base+n)++m++a.toList.drop (base+n+m.length)
 |[],n,a,h=>by simp
 |x::m,n,a,h=>by
  simp only[Yz]at h
  rw[List.zipIdx_cons,List.foldl_cons,ZjQ base m (n+1) _ (by simp;omega)]
  simp only[Array.toList_setIfInBounds,Yz]
  have e1:(a.toList.set (base+n) x).take (base+(n+1))=a.toList.take (base+n)++[x]:=by
   rw[<-Nat.add_assoc,YO,List.take_set,List.getElem?_set]
   rw[List.set_eq_of_length_le (by simp;omega)]
   simp[show base+n<a.size by omega]
  have e2:(a.toList.set (base+n) x).drop (base+(n+1)+m.length)=a.toList.drop (base+n+(m.length+1)):=by
   rw[List.drop_set_of_lt (by omega)]
   congr 1;omega
  rw[e1,e2]
  simp
variable {prog:Program}{w:World}{A:Around}{E:Value->Shared->Prop}{s:Shared}{κ:SortKind}{P:Keyed->Prop}
theorem laid {base mid r:Nat}{res:Array Keyed} (h1:base<=mid) (h2:mid<=r) (h3:r<=a.size) (hg:Gd ky (a.extract base mid).toList (a.extract mid r).toList res.toList) :
  ∃a':Array Keyed,List.foldl (λ(a:Array Keyed) (x:Keyed×Nat)=>a.setIfInBounds (base+x.2) x.1) a res.toList.zipIdx=a'/\Chg a a' base r/\SoR ky a' base r/\∀j,base<=j->j<r->∃t,base<=t/\t<r/\kp ky a' j=kp ky a t:=by
 have hlen:res.toList.length=r-base:=by
  have:=hg.1.length_eq
  simp only[Yu,Yk,Array.size_extract]at this⊢;omega
 have key:=ZjQ base res.toList 0 a (by omega)
 have hb:base+0+res.toList.length=r:=by omega
 rw[hb,Nat.add_zero]at key
 refine⟨_,rfl,⟨?_,?_⟩,?_,?_⟩
 ·rw[Array.perm_iff_toList_perm,key]
  have e:a.toList=a.toList.take base++((a.extract base mid).toList++(a.extract mid r).toList)++a.toList.drop r:=by
   simp only[Array.toList_extract,List.extract_eq_drop_take]
   have:(a.toList.drop base).take (mid-base)++(a.toList.drop mid).take (r-mid)=(a.toList.drop base).take (r-base):=by
    have e2:r-base=(mid-base)+(r-mid):=by omega
    rw[e2,List.take_add,List.drop_drop]
    congr 3;omega
   rw[this]
   have e3:a.toList.drop r=(a.toList.drop base).drop (r-base):=by rw[List.drop_drop];congr 1;omega
   rw[e3,YY,Y7,Y7]
  conv=>rhs;rw[e]
  exact List.Perm.append_right _ (List.Perm.append_left _ hg.1)
 ·intro i hi
  rw[<-YL,<-YL,key]
  have hl0:(a.toList.take base).length=base:=by simp;omega
  rcases hi with hi|hi
  ·rw[YY,Y5 (by omega),List.getElem?_take_of_lt hi]
  ·rw[Y1 (by simp;simp at hlen;omega),List.getElem?_drop]
   congr 1
   simp only[Yu,hl0,hlen];omega
 all_goals
  have atm:∀j,(hj0:base<=j)->(hj:j<r)->kp ky (List.foldl (λ(a:Array Keyed) (x:Keyed×Nat)=>a.setIfInBounds (base+x.2) x.1) a res.toList.zipIdx) j=ky (res.toList[j-base]'(by omega)):=by
   intro j j1 j2
   have hl0:(a.toList.take base).length=base:=by simp;omega
   have:(List.foldl (λ(a:Array Keyed) (x:Keyed×Nat)=>a.setIfInBounds (base+x.2) x.1) a res.toList.zipIdx)[j]?=some (res.toList[j-base]'(by omega)):=by
    rw[<-YL,key,YY,Y1 (by omega),Y5 (by omega),hl0,Yf (by omega)]
   unfold kp
   rw[YF,this];rfl
 ·intro i j hi hij hj
  rw[atm i hi (by omega),atm j (by omega) hj]
  by_cases e:i=j
  ·subst e;exact Int.le_refl _
  ·exact List.pairwise_iff_getElem.mp hg.2 _ _ _ _ (by omega)
 ·intro j j1 j2
  rw[atm j j1 j2]
  have hm:(res.toList[j-base]'(by omega))∈(a.extract base mid).toList++(a.extract mid r).toList:=(List.Perm.mem_iff hg.1).mp (YV _)
  rcases Ys.mp hm with hm|hm
  ·obtain⟨t,ht,e⟩:=List.mem_iff_getElem.mp hm
   simp only[Yk,Array.size_extract]at ht
   simp only[Array.getElem_toList,Array.getElem_extract]at e
   exact⟨base+t,by omega,by omega,by rw[kp_at (by omega),e,Array.getElem_toList]⟩
  ·obtain⟨t,ht,e⟩:=List.mem_iff_getElem.mp hm
   simp only[Yk,Array.size_extract]at ht
   simp only[Array.getElem_toList,Array.getElem_extract]at e
   exact⟨mid+t,by omega,by omega,by rw[kp_at (by omega),e,Array.getElem_toList]⟩
end
end L2
namespace L2
open PySem PySem.Spec PyProof.Rows
end L2
namespace L2
open PySem PySem.Spec PyProof.Rows PySem.W
end L2
namespace L2
open PySem PySem.Spec PyProof.Rows PySem.W PySem.Calls
end L2
namespace L2
open PySem PySem.Spec PyProof.Rows PySem.W
section
variable {X:Cx}
noncomputable def ZkB (a:Addr) (n:Nat):Heap->Prop:=λh=>∃o es ep t,h.get? a=some o/\o.ExactSet/\o.data=.set es ep t/\t.fits es.size=true/\es.size=n/\n<scanBound
noncomputable def rLenSet:List V->Hp->VK->Prop:=λxs H Q=>∃(q:Addr) (n:Nat),xs=[.ref q]/\H q=some (.ext (ZkB q n))/\Q (.int n) H
theorem Zie:Za7 X (.builtin "len") rLenSet:=by
 intro pins s σ H xs us Q I r h
 obtain⟨q,n,rfl,hq,k⟩:=h
 obtain⟨u,rfl,ru⟩:=r.one
 cases(show u=Value.ref q from ru)
 obtain⟨o,es,ep,t,ho,hex,hd,hf,hn,hb⟩:=(show ZX X.prog X.w H s.heap q (.ext (ZkB q n))from I.hok q _ hq).1
 subst hn
 refine PySem.call_len_set ho hex hd hf (by unfold scanBound at hb;omega) ⟨.int es.size,H,I.tok _,⟨_,rfl⟩,k⟩
theorem bt_set:bootBuiltins "set"=some (.type "set"):=by decide +kernel
end
theorem le1 {n:Nat}{us:List Value} (e:us.length=n+1):∃a t,us=a::t/\t.length=n:=by
 cases us with
 |nil=>cases e
 |cons a t=>exact⟨a,t,rfl,Nat.succ.inj e⟩
theorem le0 {us:List Value} (e:us.length=0):us=[]:=List.length_eq_zero_iff.mp e
end L2
namespace L2
open PySem PySem.Spec PyProof.Rows PySem.W PyProof
section
variable {X:Cx}
theorem Callee.at {P:Program}{w:World}{K:Frag}{mg:Str->Option Value}{base:Heap}{x:Str}{k:Nat}{ps:List Str}{sp:Sp} (C:Callee P w K mg base x k ps sp):mg x=some (.ref (clsAt mg x)):=by
 obtain⟨f,fd,hm,_⟩:=C
 unfold clsAt
 rw[hm]
theorem pe_fn {x:Str}{k:Nat}{ps:List Str}{sp:Sp}{pos:Pos} (C:Callee X.prog X.w X.K X.mg X.base x k ps sp) (hg:Gl X x) (hd:(x==("__debug__":Str))=false:=by decide):PE X (.Name x pos) (tC (.ref (clsAt X.mg x))) :=
 Zfd hg C.at rfl hd
noncomputable def ZjR (X:Cx) (cs:List (V×Sp)):Prop:=∀c∈cs,∃f fd ps k,c.1=.ref f/\FnOk X.prog X.w X.K X.mg X.base (CXE X.prog X.w) k f fd ps c.2/\Room k X.A/\keepIn X.K (.ref f)=true/\Binds X.K fd ps []
theorem Zm2:ZjR X []:=λc h=>nomatch h
theorem ZfB {x:Str}{k:Nat}{ps:List Str}{sp:Sp}{cs:List (V×Sp)} (C:Callee X.prog X.w X.K X.mg X.base x k ps sp) (hr:Room k X.A) (h:ZjR X cs):ZjR X ((.ref (clsAt X.mg x),sp)::cs):=λc hc=>by
 rcases Yj.mp hc with rfl|hc
 ·have e:=C.at
  obtain⟨f,fd,hm,hk,hb,F⟩:=C
  rw[hm]at e
  injection e with e
  injection e with e
  exact⟨f,fd,ps,k,by rw[e],F,hr,hk,hb⟩
 ·exact h c hc
end
end L2
namespace L2
open PySem PySem.Spec PyProof.Rows PySem.W
end L2
namespace HT
open PySem PyProof.Rows
section
open PySem.SeqAt
open PySem.AutoSeq1 (wpAny_loadPart')
open PySem.MeetsSeq PySem.MeetsSeq2 PySem.MeetsSeq3
end
end HT
namespace L2
open PySem PySem.Spec PyProof.Rows PySem.W
end L2
namespace L2
open PySem PySem.Spec PyProof.Rows PySem.W PyProof
end L2
namespace PySem.SeqAt
open PySem Sem
open MeetsSeq PyProof.Rows
end PySem.SeqAt
namespace L2
open PySem PySem.Spec PyProof.Rows PySem.W
end L2
namespace ST
open PySem PySem.SetTable
noncomputable def Rise (xs:Array Nat):Prop:=xs.toList.Pairwise (· < ·)
theorem Zay (xs:Array Nat) (i:Nat):xs.getD i 0=xs.toList.getD i 0:=by
 rw[Yg,YL,YF]
theorem Rise.lt {xs:Array Nat} (h:Rise xs) {a b:Nat} (ab:a<b) (hb:b<xs.size):xs.getD a 0<xs.getD b 0:=by
 have hb':b<xs.toList.length:=by rw[Yk];exact hb
 rw[Zay,Zay,Yg,Yg,Yf (by omega:a<xs.toList.length),Yf hb']
 exact List.pairwise_iff_getElem.mp h a b (by omega) hb' ab
theorem ZfC {xs:Array Nat}{j:Nat} (h:Rise xs):∀(f lo hi:Nat),hi-lo<=f->lo<=hi->hi<=xs.size->(∀i,i<lo->xs.getD i 0<j)->(∀i,hi<=i->i<xs.size->j<=xs.getD i 0) ->
  below.go xs j f lo hi<=xs.size/\(∀i,i<below.go xs j f lo hi->xs.getD i 0<j)/\(∀i,below.go xs j f lo hi<=i->i<xs.size->j<=xs.getD i 0)
 |0,lo,hi,a,b,c,d,e=>by
  have:lo=hi:=by omega
  subst this
  exact⟨c,d,e⟩
 |f+1,lo,hi,a,b,c,d,e=>by
  unfold below.go
  by_cases hlt:lo<hi
  ·rw[Yc hlt]
   dsimp only
   have eD:xs.getD ((lo+hi) / 2) j=xs.getD ((lo+hi) / 2) 0:=by
    rw[YF,YF,Array.getElem?_eq_getElem (by omega)];rfl
   rw[eD]
   by_cases hm:xs.getD ((lo+hi) / 2) 0<j
   ·rw[Yc hm]
    refine ZfC h f _ _ (by omega) (by omega) c (λi hi'=>?_) e
    by_cases e1:i=(lo+hi) / 2
    ·rw[e1];exact hm
    ·exact Nat.lt_trans (h.lt (by omega:i<(lo+hi) / 2) (by omega)) hm
   ·rw[Yb hm]
    refine ZfC h f _ _ (by omega) (by omega) (by omega) d λi h1 h2=>?_
    by_cases e1:i=(lo+hi) / 2
    ·rw[e1];omega
    ·have:=h.lt (by omega:(lo+hi) / 2<i) h2
     omega
  ·rw[Yb hlt]
   have:lo=hi:=by omega
   subst this
   exact⟨c,d,e⟩
theorem Zdy {xs:Array Nat} (h:Rise xs) (j:Nat):below xs j<=xs.size/\(∀i,i<below xs j->xs.getD i 0<j)/\(∀i,below xs j<=i->i<xs.size->j<=xs.getD i 0) :=
 ZfC h xs.size 0 xs.size (by omega) (by omega) (Yd _) (λi hi=>by omega) λi h1 h2=>by omega
theorem gq {xs:Array Nat}{i:Nat} (h:i<xs.size):xs[i]?=some (xs.getD i 0):=by
 rw[YF,Array.getElem?_eq_getElem h];rfl
theorem Zb0 {t:SetTable} (hd:t.dummies=#[]) (h:Rise t.place) (j:Nat):(t.slot j=.empty/\j∉t.place.toList)\/(∃i,i<t.place.size/\t.place.getD i 0=j/\t.slot j=.live i):=by
 obtain⟨a,b,c⟩:=Zdy h j
 unfold slot
 dsimp only
 by_cases e:t.place[below t.place j]?==some j
 ·rw[Yc e]
  have e1:t.place[below t.place j]?=some j:=by simpa using e
  obtain⟨h1,h2⟩:=Array.getElem?_eq_some_iff.mp e1
  exact .inr ⟨_,h1,by rw[YF,e1];rfl,rfl⟩
 ·rw[Yb e,hd]
  refine .inl ⟨by simp[has,below],λhm=>e ?_⟩
  obtain⟨i,hi,e1⟩:=Y3 hm
  rw[Yk]at hi
  have e2:t.place.getD i 0=j:=by rw[YF,Array.getElem?_eq_getElem hi];simpa using e1
  have:below t.place j=i:=by
   rcases Nat.lt_trichotomy (below t.place j) i with g|g|g
   ·have h1:=c _ (Yd _) (by omega)
    have h2:=h.lt g hi
    omega
   ·exact g
   ·have:=b i g;omega
  rw[this,gq hi,e2];simp
theorem Zif {xs:Array Nat} (h:Rise xs) {j:Nat} (hj:j∉xs.toList):Rise (insertAt xs (below xs j) j)/\(insertAt xs (below xs j) j).toList.Perm (j::xs.toList):=by
 obtain⟨a,b,c⟩:=Zdy h j
 have e:(insertAt xs (below xs j) j).toList=xs.toList.take (below xs j)++j::xs.toList.drop (below xs j):=by
  rw[SetTable.toList_insertAt]
 have p:(xs.toList.take (below xs j)++j::xs.toList.drop (below xs j)).Perm (j::xs.toList):=by
  refine List.perm_middle.trans ?_
  rw[Y7]
 refine⟨?_,e▸p⟩
 unfold Rise
 rw[e,List.pairwise_append]
 have hl:xs.toList.length=xs.size:=Yk
 have lo:∀x∈xs.toList.take (below xs j),x<j:=λx hx=>by
  obtain⟨i,hi,e1⟩:=Y3 hx
  rw[Y4]at hi
  rw[List.getElem_take]at e1
  have:=b i (by omega)
  rw[Zay,Yg,Yf (by omega)]at this
  rw[<-e1];exact this
 have hi:∀x∈xs.toList.drop (below xs j),j<x:=λx hx=>by
  have hm:x∈xs.toList:=List.mem_of_mem_drop hx
  obtain⟨i,hi,e1⟩:=Y3 hx
  rw[List.length_drop]at hi
  rw[List.getElem_drop]at e1
  have:=c (below xs j+i) (by omega) (by omega)
  rw[Zay,Yg,Yf (by omega)]at this
  have h2:j<=x:=by rw[<-e1];exact this
  have h3:x≠j:=λz=>hj (z▸hm)
  omega
 refine⟨(List.Pairwise.sublist (List.take_sublist _ _) h),YZ.mpr ⟨hi,List.Pairwise.sublist (List.drop_sublist _ _) h⟩,λx hx y hy=>?_⟩
 rcases Yj.mp hy with rfl|hy
 ·exact lo x hx
 ·exact Nat.lt_trans (lo x hx) (hi y hy)
noncomputable def step (N i:Nat):Nat:=(i*5+1) % N
noncomputable def orb (N:Nat):Nat->Nat->Nat
 |0,i=>i
 |k+1,i=>orb N k (step N i)
theorem Zfk (N:Nat):∀a b i,orb N (a+b) i=orb N b (orb N a i)
 |0,b,i=>by rw[Nat.zero_add];rfl
 |a+1,b,i=>by rw[show a+1+b=(a+b)+1 by omega];exact Zfk N a b _
noncomputable def mk (N:Nat):Nat->Nat->Nat->Nat×Nat
 |0,m,i=>(m,i)
 |k+1,m,i=>mk N k (m ||| 1 <<< i) (step N i)
theorem ZjS (N:Nat):∀k m i,(mk N k m i).2=orb N k i/\∀j,(mk N k m i).1.testBit j=true->m.testBit j=true\/∃a,a<k/\orb N a i=j
 |0,m,i=>⟨rfl,λj h=>.inl h⟩
 |k+1,m,i=>by
  obtain⟨h1,h2⟩:=ZjS N k (m ||| 1 <<< i) (step N i)
  refine⟨h1,λj h=>?_⟩
  rcases h2 j h with g|⟨a,ha,e⟩
  ·rw[Nat.testBit_or,Bool.or_eq_true]at g
   rcases g with g|g
   ·exact .inl g
   ·rw[Nat.one_shiftLeft,Nat.testBit_two_pow]at g
    exact .inr ⟨0,by omega,by show i=j;simpa using g⟩
  ·exact .inr ⟨a+1,by omega,e⟩
noncomputable def whole (N:Nat):Prop:=mk N N 0 0=(2 ^ N-1,0)
theorem ZkC {N:Nat} (h:whole N) {i j:Nat} (hi:i<N) (hj:j<N):∃m,m<N/\orb N m i=j:=by
 obtain⟨h1,h2⟩:=ZjS N N 0 0
 have hw:mk N N 0 0=(2 ^ N-1,0):=h
 rw[hw]at h1 h2
 have all:∀x,x<N->∃a,a<N/\orb N a 0=x:=λx hx=>by
  rcases h2 x (by dsimp only;rw[Nat.testBit_two_pow_sub_one];simpa using hx)with g|g
  ·rw[Nat.zero_testBit]at g;cases g
  ·exact g
 obtain⟨a,ha,ea⟩:=all i hi
 obtain⟨b,hb,eb⟩:=all j hj
 by_cases hab:a<=b
 ·refine⟨b-a,by omega,?_⟩
  rw[<-ea,<-Zfk,show a+(b-a)=b by omega,eb]
 ·refine⟨(N-a)+b,by omega,?_⟩
  rw[<-ea,<-Zfk,show a+(N-a+b)=N+b by omega,Zfk,<-h1]
  exact eb
noncomputable def Mask (m:Nat):Prop:=m=7\/m=31\/m=127\/m=511\/m=2047
theorem Mask.whole {m:Nat} (h:Mask m):whole (m+1):=by
 unfold ST.whole
 rcases h with rfl|rfl|rfl|rfl|rfl<;>decide +kernel
noncomputable def Zbm (m:Nat):Nat->Nat×Nat->Nat×Nat
 |0,p=>p
 |k+1,p=>Zbm m k (leap m p.1 p.2)
theorem ZgT (m:Nat):∀a b p,Zbm m (a+b) p=Zbm m b (Zbm m a p)
 |0,b,p=>by rw[Nat.zero_add];rfl
 |a+1,b,p=>by rw[show a+1+b=(a+b)+1 by omega];exact ZgT m a b _
theorem ZcI (m:Nat):∀k p,p.1<=m->(Zbm m k p).1<=m
 |0,p,h=>h
 |k+1,p,h=>ZcI m k _ (by unfold leap;exact Nat.lt_succ_iff.mp (Nat.mod_lt _ (Nat.succ_pos m)))
theorem ZfD (m:Nat):∀k p,(Zbm m k p).2=p.2 / 32 ^ k
 |0,p=>by rw[Nat.pow_zero,Nat.div_one];rfl
 |k+1,p=>by
  show(Zbm m k (leap m p.1 p.2)).2=_
  rw[ZfD m k]
  show p.2 / 32 / 32 ^ k=_
  rw[Nat.div_div_eq_div_mul,Nat.pow_succ,Nat.mul_comm]
theorem ZgU (m:Nat):∀k i,(Zbm m k (i,0)).1=orb (m+1) k i
 |0,i=>rfl
 |k+1,i=>by
  have:leap m i 0=(step (m+1) i,0):=by unfold leap step;simp
  show(Zbm m k (leap m i 0)).1=_
  rw[this]
  exact ZgU m k _
theorem Zig {m:Nat} (h:Mask m) {i q j:Nat} (hi:i<=m) (hq:q<2 ^ 64) (hj:j<=m):∃k,k<=m+13/\(Zbm m k (i,q)).1=j:=by
 have h1:=ZcI m 13 (i,q) hi
 have h2:(Zbm m 13 (i,q)).2=0:=by
  rw[ZfD]
  exact Nat.div_eq_of_lt (Nat.lt_trans hq (by decide))
 obtain⟨a,ha,e⟩:=ZkC h.whole (Nat.lt_succ_of_le h1) (Nat.lt_succ_of_le hj)
 refine⟨13+a,by omega,?_⟩
 rw[ZgT]
 have:Zbm m 13 (i,q)=((Zbm m 13 (i,q)).1,0):=Prod.ext rfl h2
 rw[this,ZgU,e]
theorem ZjT (h:Int):bits h<2 ^ 64:=by unfold bits;omega
theorem Zey {m i:Nat} (h:i<=m):runEnd m i<=m/\i<=runEnd m i/\runEnd m i<=i+9:=by unfold runEnd;split<;>omega
inductive Reach (t:SetTable):Nat->Probe->Prop
 |here {n:Nat}{p:Probe}:p.dummy=none->p.j<=t.mask->t.slot p.j=.empty->Reach t n p
 |on {n:Nat}{p:Probe}:p.dummy=none->p.j<=t.mask->Reach t n (t.advance p)->Reach t (n+1) p
theorem Reach.mono {t:SetTable}{n m:Nat}{p:Probe} (h:Reach t n p) (k:n<=m):Reach t m p:=by
 induction h generalizing m with
 |here a b c=>exact .here a b c
 |on a b c ih =>
  obtain⟨m,rfl⟩:∃m',m=m'+1:=⟨m-1,by omega⟩
  exact .on a b (ih (by omega))
noncomputable def lead (t:SetTable) (p:Nat×Nat):Probe:={j:=p.1,more:=runEnd t.mask p.1-p.1,i:=p.1,perturb:=p.2,dummy:=none}
theorem ZgV {t:SetTable}:∀(more:Nat) (p:Probe) (n:Nat),p.more=more->p.dummy=none->p.j+p.more<=t.mask->Reach t n (lead t (leap t.mask p.i p.perturb))->Reach t (n+more+1) p
 |0,p,n,e,hd,hj,h=>by
  refine .on hd (by omega) ?_
  have:t.advance p=lead t (leap t.mask p.i p.perturb):=by
   unfold advance lead
   rw[Yb (by omega),hd]
  rw[this]
  exact h
 |k+1,p,n,e,hd,hj,h=>by
  refine .on hd (by omega) ?_
  have:t.advance p={p with j:=p.j+1,more:=p.more-1}:=by
   unfold advance
   rw[Yc (by omega)]
  rw[this]
  exact ZgV k _ n (by dsimp only;omega) hd (by dsimp only;omega) h
theorem ZeT {t:SetTable}{j:Nat} (hj:t.slot j=.empty):∀(k:Nat) (p:Nat×Nat),p.1<=t.mask->(Zbm t.mask k p).1=j->Reach t (10*k) (lead t p)
 |0,p,hp,e=>.here rfl hp (by show t.slot p.1=_;rw[show p.1=j from e];exact hj)
 |k+1,p,hp,e=>by
  obtain⟨h1,h2,h3⟩:=Zey hp
  have hl:(leap t.mask p.1 p.2).1<=t.mask:=ZcI t.mask 1 p hp
  refine(ZgV (lead t p).more (lead t p) (10*k) rfl rfl ?_ (ZeT hj k _ hl e)).mono ?_
  ·show p.1+(runEnd t.mask p.1-p.1)<=_;omega
  ·show 10*k+(runEnd t.mask p.1-p.1)+1<=_;omega
theorem Zih {t:SetTable} (hm:Mask t.mask) {j:Nat} (hj:t.slot j=.empty) (jm:j<=t.mask) (h:Int):∃n,n<10*turns t.mask/\Reach t n (t.probeStart h):=by
 obtain⟨k,hk,e⟩:=Zig hm (i:=bits h % (t.mask+1)) (q:=bits h) (Nat.lt_succ_iff.mp (Nat.mod_lt _ (Nat.succ_pos _))) (ZjT h) jm
 refine⟨10*k,by unfold turns;omega,?_⟩
 exact ZeT hj k (bits h % (t.mask+1),bits h) (Nat.lt_succ_iff.mp (Nat.mod_lt _ (Nat.succ_pos _))) e
structure Ok (t:SetTable) (n:Nat):Prop where
 mask:Mask t.mask
 size:t.place.size=n
 no:t.dummies=#[]
 rise:Rise t.place
 within:∀x∈t.place.toList,x<=t.mask
 room:n*5<t.mask*3
theorem Zii:∀{a b:List Nat},a.Nodup->(∀x∈a,x∈b)->a.length<=b.length
 |[],b,_,_=>Yp _
 |x::a,b,hn,hs=>by
  obtain⟨h1,h2⟩:=List.nodup_cons.mp hn
  have hx:=hs x (.head _)
  have h3:=Zii h2 (b:=b.erase x) λy hy=>(List.mem_erase_of_ne (λe:y=x=>h1 (e▸hy))).mpr (hs y (.tail _ hy))
  have h4:=List.length_erase_of_mem hx
  have h5:=List.length_pos_of_mem hx
  rw[Yz];omega
theorem Zij:∀(m:Nat) (l:List Nat),l.Nodup->(∀x∈l,x<=m)->l.length<=m->∃j,j<=m/\j∉l:=λm l hn hl hlen=>by
 by_cases h:∃j,j<=m/\j∉l
 ·exact h
 ·have hs:∀x∈List.range (m+1),x∈l:=λx hx=>by
   by_cases hx':x∈l
   ·exact hx'
   ·exact absurd ⟨x,Nat.lt_succ_iff.mp (Yr.mp hx),hx'⟩ h
  have:=Zii List.nodup_range hs
  rw[Y0]at this
  omega
theorem Rise.nodup {xs:Array Nat} (h:Rise xs):xs.toList.Nodup:=List.Pairwise.imp (λh=>Yl h) h
theorem Ok.free {t:SetTable}{n:Nat} (h:Ok t n):∃j,j<=t.mask/\t.slot j=.empty:=by
 have hz:=h.size
 have hr:=h.room
 obtain⟨j,hj,hn⟩:=Zij t.mask t.place.toList h.rise.nodup h.within (by rw[Yk];omega)
 rcases Zb0 h.no h.rise j with⟨e,_⟩|⟨i,hi,e1,e⟩
 ·exact⟨j,hj,e⟩
 ·refine absurd ?_ hn
  rw[<-e1,Zay,Yg,Yf (by rw[Yk];exact hi)]
  exact YV _
theorem Ok.start {t:SetTable}{n:Nat} (h:Ok t n) (k:Int):∃m,m<10*turns t.mask/\Reach t m (t.probeStart k):=by
 obtain⟨j,hj,e⟩:=h.free
 exact Zih h.mask e hj k
inductive Front (m:Nat) (occ:Nat->Prop) (j:Nat):Probe->Prop
 |fin {p:Probe}:p.j=j->Front m occ j p
 |on {p:Probe}{t:SetTable}:t.mask=m->occ p.j->Front m occ j (t.advance p)->Front m occ j p
theorem ZlJ {t t':SetTable} (h:t.mask=t'.mask) (p:Probe):t.advance p=t'.advance p:=by unfold advance;rw[h]
theorem Front.mono {m:Nat}{occ occ':Nat->Prop}{j:Nat}{p:Probe} (h:Front m occ j p) (k:∀x,occ x->occ' x):Front m occ' j p:=by
 induction h with
 |fin e=>exact .fin e
 |on a b c ih=>exact .on a (k _ b) ih
noncomputable def Za3 (t:SetTable) (x:Nat):Prop:=x∈t.place.toList
theorem ZlK {t:SetTable} (hd:t.dummies=#[]) (h:Rise t.place) {j i:Nat} (e:t.slot j=.live i):Za3 t j/\i<t.place.size/\t.place.getD i 0=j:=by
 rcases Zb0 hd h j with⟨z,_⟩|⟨i',hi,e1,z⟩
 ·rw[e]at z;cases z
 ·rw[e]at z;cases z
  refine⟨?_,hi,e1⟩
  unfold Za3
  rw[<-e1,Zay,Yg,Yf (by rw[Yk];exact hi)]
  exact YV _
theorem ZfE {t:SetTable} (hd:t.dummies=#[]) (h:Rise t.place) {j:Nat} (e:t.slot j=.empty):¬ Za3 t j:=by
 rcases Zb0 hd h j with⟨_,z⟩|⟨i',hi,e1,z⟩
 ·exact z
 ·rw[e]at z;cases z
theorem ZkD {t:SetTable} (hd:t.dummies=#[]) (hr:Rise t.place) (ha:Nat->Int) (h:Int) {n:Nat}{p:Probe} (R:Reach t n p):∀f,n<f ->
  (∃j,probe.go t ha h f p=some (.empty j none)/\j<=t.mask/\t.slot j=.empty/\Front t.mask (Za3 t) j p/\∀i,i<t.place.size->ha i=h->¬ Front t.mask (Za3 t) (t.place.getD i 0) p) \/
  (∃j i next m,probe.go t ha h f p=some (.candidate j i next)/\i<t.place.size/\t.slot j=.live i/\ha i=h/\m<n/\Reach t m next/\(∀j',Front t.mask (Za3 t) j' next->Front t.mask (Za3 t) j' p) /\
   ∀i',i'<t.place.size->ha i'=h->i'≠i->Front t.mask (Za3 t) (t.place.getD i' 0) p->Front t.mask (Za3 t) (t.place.getD i' 0) next):=by
 have occ_at:∀i,i<t.place.size->Za3 t (t.place.getD i 0):=λi hi=>by
  unfold Za3
  rw[Zay,Yg,Yf (by rw[Yk];exact hi)]
  exact YV _
 have same:∀i i',i<t.place.size->i'<t.place.size->t.place.getD i 0=t.place.getD i' 0->i=i':=λi i' hi hi' e=>by
  rcases Nat.lt_trichotomy i i' with g|g|g
  ·have:=hr.lt g hi';omega
  ·exact g
  ·have:=hr.lt g hi;omega
 induction R with
 |@here n p a b c =>
  intro f hf
  obtain⟨f,rfl⟩:∃g,f=g+1:=⟨f-1,by omega⟩
  refine .inl ⟨p.j,?_,b,c,.fin rfl,λi hi _ F=>?_⟩
  ·unfold probe.go
   rw[c,a]
  ·cases F with
   |fin e=>exact ZfE hd hr c (e▸occ_at i hi)
   |on _ o _=>exact ZfE hd hr c o
 |@on n p a b c ih =>
  intro f hf
  obtain⟨f,rfl⟩:∃g,f=g+1:=⟨f-1,by omega⟩
  unfold probe.go
  rcases Zb0 hd hr p.j with⟨e,hn⟩|⟨i,hi,e1,e⟩
  ·rw[e]
   refine .inl ⟨p.j,by rw[a],b,e,.fin rfl,λi hi _ F=>?_⟩
   cases F with
   |fin z=>exact hn (by have:=occ_at i hi;rw[<-z]at this;exact this)
   |on _ o _=>exact hn o
  ·rw[e]
   dsimp only
   have ho:=(ZlK hd hr e).1
   have step:∀i',i'<t.place.size->i'≠i->Front t.mask (Za3 t) (t.place.getD i' 0) p->Front t.mask (Za3 t) (t.place.getD i' 0) (t.advance p):=λi' hi' ne F=>by
    cases F with
    |fin z=>exact absurd (same i' i hi' hi (z.symm.trans e1.symm)) ne
    |on hm _ F=>rw[ZlJ hm.symm];exact F
   by_cases he:(ha i==h)=true
   ·rw[Yc he]
    exact .inr ⟨p.j,i,_,n,rfl,hi,e,by simpa using he,by omega,c,λj' F=>.on rfl ho F,λi' hi' _ ne F=>step i' hi' ne F⟩
   ·rw[Yb he]
    have ne:∀i',ha i'=h->i'≠i:=λi' e z=>he (by rw[<-z];simpa using e)
    rcases ih f (by omega)with⟨j,g1,g2,g3,g4,g5⟩|⟨j,i2,next,m,g1,g2,g3,g4,g5,g6,g7,g8⟩
    ·exact .inl ⟨j,g1,g2,g3,.on rfl ho g4,λi' hi' hh F=>g5 i' hi' hh (step i' hi' (ne i' hh) F)⟩
    ·exact .inr ⟨j,i2,next,m,g1,g2,g3,g4,by omega,g6,λj' F=>.on rfl ho (g7 j' F),λi' hi' hh ne2 F=>g8 i' hi' hh ne2 (step i' hi' (ne i' hh) F)⟩
noncomputable def Zik (o:Array (Option Nat)) (x:Nat):Prop:=∃k,o.getD x none=some k
theorem ZjU {o:Array (Option Nat)}{x:Nat} (hx:x<o.size) (h:o.getD x (some 0)≠none):Zik o x:=by
 rw[YF,Array.getElem?_eq_getElem hx]at h
 unfold Zik
 rw[YF,Array.getElem?_eq_getElem hx]
 exact Option.ne_none_iff_exists'.mp h
theorem ZgW {m:Nat}{occ:Nat->Prop}{t:SetTable} (ht:t.mask=m):∀(k:Nat) (p:Probe),p.dummy=none->k<=p.more->(∀k',k'<k->occ (p.j+k'))->Front m occ (p.j+k) p
 |0,p,hd,hk,ho=>.fin rfl
 |k+1,p,hd,hk,ho=>by
  refine .on ht (ho 0 (by omega)) ?_
  have:t.advance p={p with j:=p.j+1,more:=p.more-1}:=by
   unfold advance
   rw[Yc (by omega)]
  rw[this,show p.j+(k+1)=p.j+1+k by omega]
  exact ZgW ht k {p with j:=p.j+1,more:=p.more-1} hd (by show k<=p.more-1;omega) λk' hk'=>by
   show occ (p.j+1+k')
   have:=ho (k'+1) (by omega)
   rwa [show p.j+(k'+1)=p.j+1+k' by omega]at this
theorem ZfF {m:Nat}{occ:Nat->Prop}{t:SetTable}{j:Nat} (ht:t.mask=m):∀(k:Nat) (p:Probe),p.more=k->p.dummy=none->(∀k',k'<=k->occ (p.j+k'))->Front m occ j (lead t (leap t.mask p.i p.perturb))->Front m occ j p
 |0,p,hk,hd,ho,F=>by
  refine .on ht (ho 0 (Yd _)) ?_
  have:t.advance p=lead t (leap t.mask p.i p.perturb):=by
   unfold advance lead
   rw[Yb (by omega),hd]
  rw[this];exact F
 |k+1,p,hk,hd,ho,F=>by
  refine .on ht (ho 0 (Yp _)) ?_
  have:t.advance p={p with j:=p.j+1,more:=p.more-1}:=by
   unfold advance
   rw[Yc (by omega)]
  rw[this]
  refine ZfF ht k _ (by show p.more-1=k;omega) hd (λk' hk'=>?_) F
  show occ (p.j+1+k')
  have:=ho (k'+1) (by omega)
  rwa [show p.j+(k'+1)=p.j+1+k' by omega]at this
theorem ZfG {o:Array (Option Nat)}{m:Nat}{t:SetTable} (ht:t.mask=m) (hs:o.size=m+1):∀(f:Nat) (p:Nat×Nat) (j:Nat),p.1<=m->layClean.free m o f p.1 p.2=some j->Front m (Zik o) j (lead t p)
 |0,p,j,hp,e=>by unfold layClean.free at e;cases e
 |f+1,p,j,hp,e=>by
  unfold layClean.free at e
  obtain⟨h1,h2,h3⟩:=Zey hp
  have em:(lead t p).more=runEnd m p.1-p.1:=by unfold lead;rw[ht]
  cases hx:(List.range (runEnd m p.1+1-p.1)).find? (λk=>(o.getD (p.1+k) (some 0)).isNone)with
  |some k =>
   rw[hx]at e
   have e:p.1+k=j:=YA e
   subst e
   obtain⟨hk,as,bs,hl,hno⟩:=List.find?_eq_some_iff_append.mp hx
   have hk2:k<runEnd m p.1+1-p.1:=Yr.mp (by rw[hl];simp)
   refine ZgW (p:=lead t p) ht k rfl (by rw[em];omega) λk' hk'=>?_
   have hmem:k'∈as:=by
    have hpw:(as++k::bs).Pairwise (· < ·):=by rw[<-hl];exact List.pairwise_lt_range
    have h4:k'∈as++k::bs:=by rw[<-hl];exact Yr.mpr (by omega)
    rcases Ys.mp h4 with h5|h5
    ·exact h5
    ·rcases Yj.mp h5 with h6|h6
     ·omega
     ·have:=List.rel_of_pairwise_cons (List.pairwise_append.mp hpw).2.1 h6
      omega
   have:=hno k' hmem
   refine ZjU (show p.1+k' < _ by omega) ?_
   intro z
   rw[show o.getD ((lead t p).j+k') (some 0)=o.getD (p.1+k') (some 0)from rfl]at z
   rw[z]at this
   exact absurd this (by decide)
  |none =>
   rw[hx]at e
   have e:layClean.free m o f (leap m p.1 p.2).1 (leap m p.1 p.2).2=some j:=e
   have ih:=ZfG ht hs f (leap m p.1 p.2) j (ZcI m 1 p hp) e
   refine ZfF ht (lead t p).more (lead t p) rfl rfl (λk' hk'=>?_) (by rw[ht];exact ih)
   rw[em]at hk'
   have:=List.find?_eq_none.mp hx k' (Yr.mpr (by omega))
   refine ZjU (show p.1+k' < _ by omega) ?_
   intro z
   rw[show o.getD ((lead t p).j+k') (some 0)=o.getD (p.1+k') (some 0)from rfl]at z
   rw[z]at this
   exact this rfl
end ST
namespace ST
open PySem PySem.SetTable
noncomputable def vals (o:Array (Option Nat)):List Nat:=o.toList.filterMap id
theorem Zil:∀(l:List (Option Nat)) (j k:Nat),j<l.length->l.getD j (some 0)=none->((l.set j (some k)).filterMap id).Perm (k::l.filterMap id)
 |[],j,k,h,_=>absurd h (Nat.not_lt_zero _)
 |x::l,0,k,h,e=>by
  have e:x=none:=e
  subst e
  exact List.Perm.refl _
 |x::l,j+1,k,h,e=>by
  have ih:=Zil l j k (by simpa using h) e
  cases x with
  |none=>exact ih
  |some y=>exact(List.Perm.cons y ih).trans (List.Perm.swap k y _)
theorem ZkE (o:Array (Option Nat)) (m:Nat):∀(k f:Nat) (p:Nat×Nat),p.1<=m->k<f->o.getD (Zbm m k p).1 (some 0)=none->∃j,layClean.free m o f p.1 p.2=some j/\o.getD j (some 0)=none:=λk=>by
 induction k with
 |zero =>
  intro f p hp hf e
  obtain⟨f,rfl⟩:∃g,f=g+1:=⟨f-1,by omega⟩
  have e:o.getD p.1 (some 0)=none:=e
  unfold layClean.free
  cases hx:(List.range (runEnd m p.1+1-p.1)).find? (λk=>(o.getD (p.1+k) (some 0)).isNone)with
  |some k=>exact⟨_,rfl,by have:=List.find?_some hx;simpa using this⟩
  |none =>
   have:=List.find?_eq_none.mp hx 0 (by obtain⟨a,b,c⟩:=Zey hp;simp;omega)
   rw[Nat.add_zero,e]at this
   exact absurd rfl this
 |succ k ih =>
  intro f p hp hf e
  obtain⟨f,rfl⟩:∃g,f=g+1:=⟨f-1,by omega⟩
  unfold layClean.free
  cases hx:(List.range (runEnd m p.1+1-p.1)).find? (λk=>(o.getD (p.1+k) (some 0)).isNone)with
  |some k=>exact⟨_,rfl,by have:=List.find?_some hx;simpa using this⟩
  |none =>
   exact ih f (leap m p.1 p.2) (ZcI m 1 p hp) (by omega) e
theorem Zm3 {o:Array (Option Nat)}{m:Nat} (hm:Mask m) (hs:o.size=m+1) (hv:(vals o).length<=m) (h:Int):∃j,layClean.free m o (turns m) (bits h % (m+1)) (bits h)=some j/\j<=m/\o.getD j (some 0)=none:=by
 have:∃j,j<=m/\o.getD j (some 0)=none:=by
  by_cases hx:∃j,j<=m/\o.getD j (some 0)=none
  ·exact hx
  ·have all:∀x∈o.toList,(id x).isSome=true:=λx hx'=>by
    obtain⟨j,hj,e⟩:=Y3 hx'
    rw[Yk]at hj
    cases x with
    |some y=>rfl
    |none=>exact absurd ⟨j,by omega,by rw[YF,<-YL,Yf (by rw[Yk];exact hj),e];rfl⟩ hx
   have:(vals o).length=o.toList.length:=by
    unfold vals
    exact List.filterMap_length_eq_length.mpr all
   have z:o.toList.length=o.size:=Yk
   omega
 obtain⟨j,hj,e⟩:=this
 obtain⟨k,hk,e1⟩:=Zig hm (i:=bits h % (m+1)) (q:=bits h) (Nat.lt_succ_iff.mp (Nat.mod_lt _ (Nat.succ_pos _))) (ZjT h) hj
 obtain⟨j',e2,e3⟩:=ZkE o m k (turns m) (bits h % (m+1),bits h) (Nat.lt_succ_iff.mp (Nat.mod_lt _ (Nat.succ_pos _))) (by unfold turns;omega) (by rw[e1];exact e)
 refine⟨j',e2,?_,e3⟩
 by_cases hj':j'<o.size
 ·omega
 ·rw[YF,Array.getElem?_eq_none (by omega)]at e3
  cases e3
noncomputable def Zd6 (m:Nat) (acc:Option (Array (Option Nat)×Nat)) (h:Int):Option (Array (Option Nat)×Nat):=do
  let (owner,k) <-acc
  let j <-layClean.free m owner (turns m) (bits h % (m+1)) (bits h)
  pure (owner.setIfInBounds j (some k),k+1)
theorem ZlL {o:Array (Option Nat)}{j k:Nat} (h:o.getD j none=some k):k∈vals o:=by
 unfold vals
 rw[List.mem_filterMap]
 rw[YF]at h
 cases hx:o[j]? with
 |none=>rw[hx]at h;cases h
 |some y =>
  rw[hx]at h
  have h:y=some k:=h
  subst h
  exact⟨some k,List.mem_of_getElem? (by rw[YL];exact hx),rfl⟩
noncomputable def Zhu (t:SetTable) (h:Int):Probe:=lead t (bits h % (t.mask+1),bits h)
theorem ZgX (t:SetTable) (h:Int):t.probeStart h=Zhu t h:=rfl
theorem Zim {m:Nat}{t:SetTable} (ht:t.mask=m) (hm:Mask m):∀(hs pre:List Int) (o:Array (Option Nat)),o.size=m+1->(vals o).Perm (List.range pre.length)->pre.length+hs.length<=m ->
  (∀j k,o.getD j none=some k->Front m (Zik o) j (Zhu t (pre.getD k 0))) ->
  ∃o',hs.foldl (Zd6 m) (some (o,pre.length))=some (o',pre.length+hs.length)/\o'.size=m+1/\(vals o').Perm (List.range (pre.length+hs.length)) /\
   ∀j k,o'.getD j none=some k->Front m (Zik o') j (Zhu t ((pre++hs).getD k 0))
 |[],pre,o,h1,h2,h3,h4=>⟨o,rfl,h1,h2,by rw[List.append_nil];exact h4⟩
 |h::hs,pre,o,h1,h2,h3,h4=>by
  have h3':pre.length+(hs.length+1)<=m:=h3
  have hv:(vals o).length=pre.length:=by rw[h2.length_eq,Y0]
  obtain⟨j,e1,e2,e3⟩:=Zm3 hm h1 (by omega) h
  have fj:=ZfG ht h1 (turns m) (bits h % (m+1),bits h) j (Nat.lt_succ_iff.mp (Nat.mod_lt _ (Nat.succ_pos _))) e1
  have st:Zd6 m (some (o,pre.length)) h=some (o.setIfInBounds j (some pre.length),pre.length+1):=by
   unfold Zd6
   simp only[Option.bind_eq_bind,Option.bind_some,e1]
   rfl
  have hj:j<o.toList.length:=by rw[Yk];omega
  have hjs:j<o.size:=by omega
  have gs:∀x,(o.setIfInBounds j (some pre.length)).getD x none=if x=j then some pre.length else o.getD x none:=λx=>by
   rw[YF,Array.getElem?_setIfInBounds,YF]
   by_cases e:j=x
   ·subst e;rw[Yc rfl,Yc hjs,Yc rfl];rfl
   ·rw[Yb e,Yb (λz=>e z.symm)]
  have oc:∀x,Zik o x->Zik (o.setIfInBounds j (some pre.length)) x:=λx ⟨k,hk⟩=>by
   unfold Zik
   rw[gs]
   by_cases e:x=j
   ·rw[Yc e];exact⟨_,rfl⟩
   ·rw[Yb e];exact⟨k,hk⟩
  have lp:(pre++[h]).length=pre.length+1:=by rw[Yu,List.length_singleton]
  have p:(vals (o.setIfInBounds j (some pre.length))).Perm (List.range (pre++[h]).length):=by
   unfold vals
   rw[Array.toList_setIfInBounds]
   refine(Zil o.toList j pre.length hj ?_).trans ?_
   ·rw[Yg,YL,<-YF];exact e3
   ·rw[lp,YR]
    exact(List.Perm.cons pre.length h2).trans (List.perm_append_singleton pre.length (List.range pre.length)).symm
  obtain⟨o',a,b,c,d⟩:=Zim ht hm hs (pre++[h]) (o.setIfInBounds j (some pre.length)) (by rw[Array.size_setIfInBounds];exact h1) p (by omega) (λx k hk=>by
   rw[gs]at hk
   by_cases e:x=j
   ·rw[Yc e]at hk
    cases hk
    subst e
    rw[Yg,Y1 (Yd _),Nat.sub_self]
    have:=fj.mono oc
    rw[<-ht]at this⊢
    exact this
   ·rw[Yb e]at hk
    have hk2:k<pre.length:=Yr.mp (h2.mem_iff.mp (ZlL hk))
    rw[Yg,Y5 hk2,<-Yg]
    exact(h4 x k hk).mono oc)
  rw[lp]at a c
  refine⟨o',?_,b,?_,?_⟩
  ·rw[List.foldl_cons,st,a,Yz,show pre.length+1+hs.length=pre.length+(hs.length+1) by omega]
  ·rw[Yz,show pre.length+(hs.length+1)=pre.length+1+hs.length by omega];exact c
  ·intro x k hk
   have:=d x k hk
   rwa [YY]at this
theorem ZlM (n:Nat):vals (Array.replicate n none)=[]:=by
 unfold vals
 rw[Array.toList_replicate]
 induction n with
 |zero=>rfl
 |succ n ih=>rw[List.replicate_succ];exact ih
theorem Zm4 {m:Nat} (hm:Mask m) (fi mo:Nat) (le pl:Bool) (hs:Array Int) (hr:hs.size*5<m*3) :
  ∃t order,laid m fi mo le pl hs=some (t,order)/\Ok t hs.size/\t.led=le/\t.plain=pl/\t.mask=m/\order.toList.Perm (List.range hs.size) /\
   ∀i k,order.toList[i]?=some k->Front t.mask (Za3 t) (t.place.getD i 0) (t.probeStart (hs.toList.getD k 0)):=by
 have e0:layClean m hs=(hs.foldl (Zd6 m) (some (Array.replicate (m+1) none,0))).map (·.1):=rfl
 rw[<-Array.foldl_toList]at e0
 obtain⟨o,e1,e2,e3,e4⟩:=Zim (t:={mask:=m,place:=#[],dummies:=#[],finger:=0,led:=true,moves:=0,plain:=true}) rfl hm hs.toList [] (Array.replicate (m+1) none) (by simp) (by rw[ZlM];exact List.Perm.refl _) (by rw[Yk];simp;omega) (λj k hk=>by
  rw[YF,Array.getElem?_replicate]at hk
  split at hk<;>cases hk)
 have e1:List.foldl (Zd6 m) (some (Array.replicate (m+1) none,0)) hs.toList=_:=e1
 rw[e1]at e0
 have e0:layClean m hs=some o:=e0
 rw[List.length_nil,Nat.zero_add,Yk]at e3
 rw[List.nil_append]at e4
 have fst:((List.range (m+1)).filterMap λj=>(o.getD j none).map (j,·)).map (·.1)=(List.range (m+1)).filter λj=>(o.getD j none).isSome:=by
  generalize List.range (m+1)=l
  induction l with
  |nil=>rfl
  |cons x l ih =>
   rw[List.filterMap_cons,List.filter_cons]
   cases hx:o.getD x none with
   |none=>exact ih
   |some y=>exact congrArg (x::·) ih
 have snd:((List.range (m+1)).filterMap λj=>(o.getD j none).map (j,·)).map (·.2)=vals o:=by
  have:(List.range (m+1)).map (λj=>o.getD j none)=o.toList:=by
   apply List.ext_getElem
   ·simp[e2]
   ·intro i h1 h2
    rw[List.getElem_map,List.getElem_range,YF,<-YL,Yf h2]
    rfl
  unfold vals
  rw[<-this]
  generalize List.range (m+1)=l
  induction l with
  |nil=>rfl
  |cons x l ih =>
   rw[List.filterMap_cons,YC,List.filterMap_cons]
   cases hx:o.getD x none with
   |none=>exact ih
   |some y=>exact congrArg (y::·) ih
 refine⟨_,_,by unfold laid;rw[e0];rfl,⟨hm,?_,rfl,?_,?_,hr⟩,rfl,rfl,rfl,?_,?_⟩
 ·rw[Yv,Yh,<-Yh (f:=(·.2)),snd,e3.length_eq,Y0]
 ·show List.Pairwise _ _
  rw[fst]
  exact List.Pairwise.sublist List.filter_sublist List.pairwise_lt_range
 ·intro x hx
  have hx:x∈((List.range (m+1)).filterMap λj=>(o.getD j none).map (j,·)).map (·.1):=hx
  rw[fst]at hx
  exact Nat.lt_succ_iff.mp (Yr.mp (YJ.mp hx).1)
 ·show(((List.range (m+1)).filterMap λj=>(o.getD j none).map (j,·)).map (·.2)).Perm _
  rw[snd];exact e3
 ·intro i k hk
  have hk:((((List.range (m+1)).filterMap λj=>(o.getD j none).map (j,·)).map (·.2))[i]?)=some k:=hk
  rw[YB]at hk
  cases hl:((List.range (m+1)).filterMap λj=>(o.getD j none).map (j,·))[i]? with
  |none=>rw[hl]at hk;cases hk
  |some q =>
   rw[hl]at hk
   have hk:q.2=k:=YA hk
   have hm1:=List.mem_of_getElem? hl
   obtain⟨j,hj,ej⟩:=List.mem_filterMap.mp hm1
   cases hx:o.getD j none with
   |none=>rw[hx]at ej;cases ej
   |some y =>
    rw[hx]at ej
    have ej:(j,y)=q:=YA ej
    subst ej
    have hk:y=k:=hk
    subst hk
    have F:=e4 j y hx
    have ep:(List.map (λx:Nat×Nat=>x.1) ((List.range (m+1)).filterMap λj=>(o.getD j none).map (j,·))).toArray.getD i 0=j:=by
     rw[Zay,List.toList_toArray,Yg,YB,hl];rfl
    show Front m _ ((List.map (λx:Nat×Nat=>x.1) ((List.range (m+1)).filterMap λj=>(o.getD j none).map (j,·))).toArray.getD i 0) _
    rw[ep]
    refine F.mono λx ⟨y',hy⟩=>?_
    show x∈((List.range (m+1)).filterMap λj=>(o.getD j none).map (j,·)).map (·.1)
    rw[fst,YJ,hy]
    refine⟨Yr.mpr ?_,rfl⟩
    rw[<-e2]
    by_cases hx':x<o.size
    ·exact hx'
    ·rw[YF,Array.getElem?_eq_none (by omega)]at hy;cases hy
theorem ZkF {t:SetTable}{n:Nat} (hm:Mask t.mask) (h0:n*5<t.mask*3) (h1:t.mask*3<=(n+1)*5) (hn:n<1228) (hs:Array Int) (hz:hs.size=n+1) :
  ∃t' order,t.relaid hs (grown (n+1))=some (t',order)/\Ok t' (n+1)/\t'.led=t.led/\t'.plain=t.plain/\order.toList.Perm (List.range (n+1))/\sizeAbove (grown (n+1))<=2048 /\
   ∀i k,order.toList[i]?=some k->Front t'.mask (Za3 t') (t'.place.getD i 0) (t'.probeStart (hs.toList.getD k 0)):=by
 have hg:∃m,Mask m/\sizeAbove (grown (n+1))-1=m/\(n+1)*5<m*3/\sizeAbove (grown (n+1))<=2048:=by
  rcases hm with e|e|e|e|e<;>rw[e]at h0 h1
  ·have:n=4:=by omega
   subst this;exact⟨31,.inr (.inl rfl),by decide,by decide,by decide⟩
  ·have:n=18:=by omega
   subst this;exact⟨127,.inr (.inr (.inl rfl)),by decide,by decide,by decide⟩
  ·have:n=76:=by omega
   subst this;exact⟨511,.inr (.inr (.inr (.inl rfl))),by decide,by decide,by decide⟩
  ·have:n=306:=by omega
   subst this;exact⟨2047,.inr (.inr (.inr (.inr rfl))),by decide,by decide,by decide⟩
  ·omega
 obtain⟨m,g1,g2,g3,g4⟩:=hg
 unfold relaid
 rw[g2]
 obtain⟨t',order,a,b,c,d,e,f,g⟩:=Zm4 g1 t.finger (t.movedTo m) t.led t.plain hs (by rw[hz];exact g3)
 rw[hz]at b f
 exact⟨t',order,a,b,c,d,f,g4,g⟩
theorem Zjb {α:Type} (es:Array α) (order:Array Nat) (h:order.toList.Perm (List.range es.size)):(order.filterMap (es[·]?)).toList.Perm es.toList:=by
 rw[Array.toList_filterMap]
 refine(h.filterMap _).trans ?_
 have:(List.range es.size).filterMap (es[·]?)=es.toList:=by
  have e1:∀l:List α,(List.range l.length).filterMap (l[·]?)=l:=λl=>by
   induction l with
   |nil=>rfl
   |cons x l ih =>
    rw[Yz,List.range_succ_eq_map,List.filterMap_cons]
    show x::_=_
    rw[List.filterMap_map]
    exact congrArg (x::·) ih
  have:=e1 es.toList
  rw[Yk]at this
  simpa using this
 rw[this]
theorem Ok.fits {t:SetTable}{n:Nat} (h:Ok t n):t.fits n=true:=by
 have:=h.room
 unfold SetTable.fits fill
 rw[h.size,h.no]
 simp;omega
theorem Ok.put {t:SetTable}{n:Nat} (h:Ok t n) {j:Nat} (hj:j<=t.mask) (he:t.slot j=.empty) :
  (t.put j).1.mask=t.mask/\(t.put j).1.led=t.led/\(t.put j).1.plain=t.plain/\(t.put j).1.dummies=#[]/\(t.put j).1.place.size=n+1/\Rise (t.put j).1.place/\(∀x∈(t.put j).1.place.toList,x<=t.mask)/\(t.put j).1.fits (n+1)=true:=by
 have hn:j∉t.place.toList:=by
  rcases Zb0 h.no h.rise j with⟨_,e⟩|⟨i,_,_,e⟩
  ·exact e
  ·rw[he]at e;cases e
 obtain⟨a,b⟩:=Zif h.rise hn
 have hd:(t.put j).1.dummies=#[]:=by
  unfold SetTable.put
  dsimp only
  rw[h.no]
  rfl
 have hs:(t.put j).1.place.size=n+1:=by
  show(insertAt t.place (below t.place j) j).size=_
  rw[<-Yk,b.length_eq,Yz,Yk,h.size]
 refine⟨rfl,rfl,rfl,hd,hs,a,λx hx=>?_,?_⟩
 ·rcases Yj.mp (b.mem_iff.mp hx)with rfl|hx
  ·exact hj
  ·exact h.within x hx
 ·have:=h.room
  unfold SetTable.fits fill
  rw[hs,hd]
  have:(t.put j).1.mask=t.mask:=rfl
  rw[this]
  simp;omega
theorem ZlN (a b:Nat) (led:Bool):Ok (SetTable.fresh a b led) 0:=⟨.inl rfl,rfl,rfl,.nil,λx hx=>(by cases hx),(by show 0*5<7*3;omega)⟩
end ST
namespace ST
open PySem PySem.Spec PySem.SetTable PyProof.Rows
open PySem.W
noncomputable def TabAt (w:World) (h:Heap) (a:Addr) (es:Array (Int×Value)) (ep:Nat) (t:SetTable):Prop :=
 ∃o,h.get? a=some o/\o.ExactSet/\o.data=.set es ep t/\ST.Ok t es.size/\t.led=!w.params.followText "set-order"/\t.plain=true
end ST
namespace ST
open PySem PySem.Spec PySem.SetTable PyProof.Rows
open PySem.W
theorem Zin {α β:Type}{f:α->β}:∀{l m:List β},l.Perm m->∀xs:List α,m=xs.map f->∃ys:List α,l=ys.map f/\ys.Perm xs:=by
 intro l m h
 induction h with
 |nil=>intro xs e;exact⟨xs,e,.refl _⟩
 |cons x h ih =>
  intro xs e
  cases xs with
  |nil=>cases e
  |cons y xs =>
   rw[YC]at e
   injection e with e1 e2
   obtain⟨ys,a,b⟩:=ih xs e2
   exact⟨y::ys,by rw[YC,<-a,<-e1],b.cons y⟩
 |swap x y l =>
  intro xs e
  cases xs with
  |nil=>cases e
  |cons u xs =>
   cases xs with
   |nil=>cases e
   |cons v xs =>
    rw[YC,YC]at e
    injection e with e1 e2
    injection e2 with e2 e3
    exact⟨v::u::xs,by rw[YC,YC,<-e1,<-e2,<-e3],List.Perm.swap u v xs⟩
 |trans h1 h2 ih1 ih2 =>
  intro xs e
  obtain⟨ys,a,b⟩:=ih2 xs e
  obtain⟨zs,c,d⟩:=ih1 ys a
  exact⟨zs,c,d.trans b⟩
section
variable {prog:Program}{w:World}{A:Around}{E:Value->Shared->Prop}{s:Shared}{a:Addr}{es:Array (Int×Value)}{ep n:Nat}{t:SetTable}
theorem ZjV {h:Heap}{o:Obj} (ho:h.get? a=some o) (hd:o.data=.set es ep t) (es':Array (Int×Value)) (t':SetTable):(h.update a (Obj.putSet es' t')).get? a=some {o with data:=.set es' (ep+1) t'}:=by
 have:=Heap.get?_update_self (Obj.putSet es' t') ho (by rw[putSet_of es' t' hd];rfl)
 rw[putSet_of es' t' hd]at this
 exact this
theorem ZfH {n:Nat} (h:n<1300):n<=sizeLine:=fits_of_scanBound (Nat.lt_trans h (by decide))
theorem ZlO {α β:Type} (f:α->Option β):∀(l:List α) (_:∀x∈l,(f x).isSome=true) {i:Nat},(l.filterMap f)[i]?=(l[i]?).bind f
 |[],_,i=>by simp
 |x::l,h,i=>by
  obtain⟨y,hy⟩:=Option.isSome_iff_exists.mp (h x (.head _))
  rw[List.filterMap_cons,hy]
  cases i with
  |zero=>exact hy.symm
  |succ i=>exact ZlO f l λz hz=>h z (.tail _ hz)
noncomputable def ZfI (t:SetTable) (es:Array (Int×Value)):Prop:=∀(i:Nat) (e:Int×Value),es[i]?=some e->Front t.mask (Za3 t) (t.place.getD i 0) (t.probeStart e.1)
theorem Zff {α:Type} (xs:List α) (p:Nat) (x:α) (hp:p<=xs.length) (i:Nat):(xs.take p++x::xs.drop p)[i]?=if i<p then xs[i]? else if i=p then some x else xs[i-1]?:=by
 by_cases h1:i<p
 ·rw[Yc h1,Y5 (by rw[Y4];omega),List.getElem?_take_of_lt h1]
 ·rw[Yb h1,Y1 (by rw[Y4];omega),Y4,Nat.min_eq_left hp]
  by_cases h2:i=p
  ·rw[Yc h2,h2,Nat.sub_self];rfl
  ·rw[Yb h2]
   obtain⟨d,hd⟩:∃d,i-p=d+1:=⟨i-p-1,by omega⟩
   rw[hd,List.getElem?_cons_succ,List.getElem?_drop]
   congr 1;omega
theorem Zjc {k:Int}{x:Value}{j:Nat} (hk:Ok t es.size) (hF:ZfI t es) (hj:j<=t.mask) (he:t.slot j=.empty) (hN:Front t.mask (Za3 t) j (t.probeStart k)):ZfI (t.put j).1 (insertAt es (t.put j).2 (k,x)):=by
 have hn:j∉t.place.toList:=ZfE hk.no hk.rise he
 obtain⟨a1,a2,a3,a4,a5,a6,a7,a8⟩:=hk.put hj he
 obtain⟨r1,r2⟩:=Zif hk.rise hn
 have hb:below t.place j<=t.place.size:=(Zdy hk.rise j).1
 have oc:∀y,Za3 t y->Za3 (t.put j).1 y:=λy hy=>r2.mem_iff.mpr (.tail _ hy)
 have mv:∀{y:Nat}{h:Int},Front t.mask (Za3 t) y (t.probeStart h)->Front (t.put j).1.mask (Za3 (t.put j).1) y ((t.put j).1.probeStart h):=λF=>by
  have:=F.mono oc
  rw[<-a1]at this
  have e:(t.put j).1.probeStart=t.probeStart:=by funext h;rw[ZgX,ZgX];unfold Zhu lead;rw[a1]
  rw[e];exact this
 intro i e hi
 have pe:(insertAt es (below t.place j) (k,x))[i]?=if i<below t.place j then es.toList[i]? else if i=below t.place j then some (k,x)else es.toList[i-1]?:=by
  rw[<-YL,SetTable.toList_insertAt,Zff _ _ _ (by rw[Yk,<-hk.size];exact hb)]
 have pp:(insertAt t.place (below t.place j) j).getD i 0=(if i<below t.place j then t.place.toList[i]? else if i=below t.place j then some j else t.place.toList[i-1]?).getD 0:=by
  rw[Zay,SetTable.toList_insertAt,Yg,Zff _ _ _ (by rw[Yk];exact hb)]
 have hi:(insertAt es (below t.place j) (k,x))[i]?=some e:=hi
 rw[pe]at hi
 show Front _ _ ((insertAt t.place (below t.place j) j).getD i 0) _
 rw[pp]
 by_cases h1:i<below t.place j
 ·rw[Yc h1]at hi⊢
  rw[YL]at hi
  have:=mv (hF i e hi)
  rwa [Zay,Yg]at this
 ·rw[Yb h1]at hi⊢
  by_cases h2:i=below t.place j
  ·rw[Yc h2]at hi⊢
   cases hi
   exact mv hN
  ·rw[Yb h2]at hi⊢
   rw[YL]at hi
   have:=mv (hF (i-1) e hi)
   rwa [Zay,Yg]at this
theorem ZkG {k:Int}{x:Value}{j:Nat} (hk:Ok t n) (hz:es.size=n) (hn:n<1228) (hj:j<=t.mask) (he:t.slot j=.empty) :
  (insertAt es (t.put j).2 (k,x)).toList.Perm ((k,x)::es.toList)/\(insertAt es (t.put j).2 (k,x)).size=n+1/\(t.put j).1.fits (n+1)=true/\(t.put j).1.led=t.led/\(t.put j).1.plain=t.plain /\
  ((t.put j).1.tooFull=false->Ok (t.put j).1 (n+1)) /\
  ((t.put j).1.tooFull=true->∃t2 order,(t.put j).1.relaid ((insertAt es (t.put j).2 (k,x)).map (·.1)) (grown (n+1))=some (t2,order)/\Ok t2 (n+1)/\t2.led=t.led/\t2.plain=t.plain/\order.toList.Perm (List.range (n+1))/\sizeAbove (grown (n+1))<=2048 /\
   (order.filterMap ((insertAt es (t.put j).2 (k,x))[·]?)).toList.Perm ((k,x)::es.toList)/\(order.filterMap ((insertAt es (t.put j).2 (k,x))[·]?)).size=n+1/\ZfI t2 (order.filterMap ((insertAt es (t.put j).2 (k,x))[·]?))):=by
 obtain⟨a1,a2,a3,a4,a5,a6,a7,a8⟩:=hk.put hj he
 have hp:(insertAt es (t.put j).2 (k,x)).toList.Perm ((k,x)::es.toList):=by
  refine(SetTable.insertAt_perm es _ _).trans ?_
  rw[Array.toList_push]
  exact List.perm_append_singleton _ _
 have hs:(insertAt es (t.put j).2 (k,x)).size=n+1:=by
  rw[<-Yk,hp.length_eq,Yz,Yk,hz]
 have hf:(t.put j).1.tooFull=decide ((n+1)*5 ≥ t.mask*3):=by
  unfold tooFull SetTable.fill
  rw[a5,a4,a1]
  rfl
 refine⟨hp,hs,a8,a2,a3,λhh=>⟨by rw[a1];exact hk.mask,a5,a4,a6,by rw[a1];exact a7,?_⟩,λhh=>?_⟩
 ·rw[hf]at hh
  have:=of_decide_eq_false hh
  rw[a1];omega
 ·rw[hf]at hh
  have:=of_decide_eq_true hh
  obtain⟨t2,order,b1,b2,b3,b4,b5,b6,b7⟩:=ZkF (t:=(t.put j).1) (n:=n) (by rw[a1];exact hk.mask) (by rw[a1];exact hk.room) (by rw[a1];omega) hn ((insertAt es (t.put j).2 (k,x)).map (·.1)) (by rw[Array.size_map,hs])
  have q:=Zjb (insertAt es (t.put j).2 (k,x)) order (by rw[hs];exact b5)
  refine⟨t2,order,b1,b2,b3.trans a2,b4.trans a3,b5,b6,q.trans hp,?_,λi e he=>?_⟩
  ·rw[<-Yk,q.length_eq,Yk,hs]
  ·rw[<-YL,Array.toList_filterMap,ZlO _ _ (λx hx=>by
    have:=Yr.mp (b5.mem_iff.mp hx)
    rw[Array.getElem?_eq_getElem (by omega)];rfl)]at he
   cases ho:order.toList[i]? with
   |none=>rw[ho]at he;cases he
   |some y =>
    rw[ho]at he
    have he:(insertAt es (t.put j).2 (k,x))[y]?=some e:=he
    have:=b7 i y ho
    rw[Yg,YL,Array.getElem?_map,he]at this
    exact this
end
structure Src (prog:Program) (w:World) (T:String) (l:Addr) (n:Nat) (P:Nat->Value->Prop) (OK:Heap->Prop):Prop where
 type:∀s:Shared,OK s.heap->s.TypeIs (.ref l) T
 keep:∀h h',OK h->(∀o,h.get? l=some o->h'.get? l=some o)->OK h'
 sub1:isSubtype (.type T) (.type "set")=pure false
 sub2:isSubtype (.type T) (.type "frozenset")=pure false
 notd:(Value.type T==Value.type "dict")=false
 iter:∀(A:Around) (s:Shared),A.handled=none->OK s.heap->∃(oI:Obj) (St:Nat->Heap->Prop),(∀(E Q:Value->Shared->Prop),Q (.ref s.heap.objs.size) {s with heap:=s.heap.push oI}->wpAny (model prog w) A (pyIter (.ref l)) Q E s) /\
  (∀A':Around,A'.handled=none->Walks prog w A' s.heap.objs.size [s.heap.objs.size,l] [s.heap.objs.size] n P St)/\St 0 (s.heap.push oI)
theorem src_list {prog:Program}{w:World}{l:Addr} (items:Array Value):Src prog w "list" l items.size (λi v=>items[i]?=some v) (λh=>h.IsList l items) where
 type:=λs h=>h.typeIs
 keep:=λh h' x k=>x.at k
 sub1:=F.sub_list_set
 sub2:=F.sub_list_frozenset
 notd:=by decide
 iter:=λA s hh x=>⟨_,_,λE Q hq=>wpAny_pyIter_list x hq,λA' h'=>Walks.list h' _ l (Yl (by obtain⟨o,e,_⟩:=x;exact Yi e)) items,⟨⟨_,Yy _ rfl,rfl,rfl⟩,x.push _⟩⟩
section
variable {prog:Program}{w:World}{A:Around}{E:Value->Shared->Prop}{s:Shared}{T:String}{l:Addr}{n:Nat}{P:Nat->Value->Prop}{OK:Heap->Prop}{SK:Addr->Nat->Heap->Prop}
theorem Zm5 (v:Value) {Q₁:Value->Shared->Prop} (h:Q₁ (.ref s.heap.objs.size) {s with heap:=s.heap.push {cls:=.type "set",dict:=none,data:=.set #[] 0 (.fresh 0 0 (!w.params.followText "set-order"))}}) :
  codeAny (model prog w) A (.call (.builtin "set.__new__") ⟨[.type "set",v],[]⟩) (wants Q₁ E) s:=by
 refine codeAny_of_tree ?_
 show wpAny _ A.in1 (do checkBuiltinCall "set.__new__" ⟨[.type "set",v],[]⟩;again (.builtin "set.__new__" ⟨[.type "set",v],[]⟩)) _ _ s
 refine Ya (wpAny_of_eq (F.newCall_set_1 v) (Ye ⟨plainId_quiet F.plain_set_new _,codeAny_builtin F.entry_set_new ?_⟩))
 rw[Around.under_plainId F.plain_set_new _]
 unfold Builtin.«set.__new__» Builtin.Frozenset.newClass
 have hsub:=sub_set_self
 obtain⟨hp,g,d,tk,os⟩:=s
 dsimp only
 wp_walk
 refine wpAny_askSetting (Ye ?_)
 dsimp only
 simp only[newObj]
 exact Ya (wpAny_alloc (Ye (Ye h)))
end
end ST
namespace L2
open PySem PySem.Spec PyProof.Rows PySem.W
end L2
namespace ST
open PySem PySem.Spec PySem.SetTable PyProof.Rows
open PySem.W
section
variable {prog:Program}{w:World}{A:Around}{E:Value->Shared->Prop}{s:Shared}{a:Addr}{es:Array (Int×Value)}{ep n:Nat}{t:SetTable}
theorem items_int {ks:List Int}{vs:List Value} (h:ItemsAre (intKind prog w) ks vs):∀v∈vs,∃(i:Int) (t:Tok),v=.int i t:=by
 induction h with
 |nil=>intro v hv;cases hv
 |cons h1 h2 ih =>
  intro v hv
  rcases Yj.mp hv with rfl|hv
  ·obtain⟨t,e⟩:=Value.isInt_shape h1
   exact⟨_,t,e⟩
  ·exact ih v hv
theorem ZlP {k:List Int}{x:Addr}{Q:Bool->Shared->Prop} (hk:IsTupleKey (intKind prog w) s.heap k x) (h:Q false s):wpAny (model prog w) A (ofAClassStatement 8 (.ref x)) Q E s:=by
 have hT:=hk.typeIs
 obtain⟨o,items,n,ho,_,hd,hi⟩:=hk
 have hv:=items_int hi
 unfold ofAClassStatement
 refine Ya (wpAny_typeOf hT ?_)
 refine YI (λ_=>?_) (λz=>absurd rfl z)
 refine Ya (Ye ?_)
 refine YI (λz=>absurd z (by decide)) (λ_=>?_)
 refine Ya (wpAny_seqItems ho hd ?_)
 show wpAny _ _ (forIn items _ _ >>= _) _ _ s
 refine Ya ?_
 rw[<-Array.forIn_toList]
 refine wpAny_forIn_list _ (λrest r s'=>r.1=none/\s'=s/\∀v∈rest,∃(i:Int) (t:Tok),v=.int i t) _ ?_ ?_ _ _ ⟨rfl,rfl,hv⟩
 ·rintro v rest r s' ⟨hr,rfl,hall⟩
  obtain⟨i,t,rfl⟩:=hall v YM
  refine Ya (m:=ofAClassStatement _ _) (wpAny_of_eq (a:=false) (by unfold ofAClassStatement;rfl) ?_)
  refine YI (λz=>absurd z (by decide)) (λ_=>?_)
  exact Ye ⟨rfl,rfl,λu hu'=>hall u (YK _ hu')⟩
 ·rintro⟨r1,r2⟩ s' ⟨hr,rfl,_⟩
  simp only at hr
  subst hr
  exact Ye h
theorem by_val {k:List Int}{x:Addr}{Q:Bool->Shared->Prop} (hk:IsTupleKey (intKind prog w) s.heap k x) (h:Q true s):wpAny (model prog w) A (hashByValue 8 (.ref x)) Q E s:=by
 have hT:=hk.typeIs
 obtain⟨o,items,n,ho,_,hd,hi⟩:=hk
 have hv:=items_int hi
 unfold hashByValue
 refine Ya (wpAny_specialOf hT F.slot_tuple_hash.lookup ?_)
 show wpAny _ _ (seqItems? (.ref x) >>= _) _ _ s
 refine Ya (wpAny_seqItems ho hd ?_)
 show wpAny _ _ (forIn items _ _ >>= _) _ _ s
 refine Ya ?_
 rw[<-Array.forIn_toList]
 refine wpAny_forIn_list _ (λrest r s'=>r.1=none/\s'=s/\∀v∈rest,∃(i:Int) (t:Tok),v=.int i t) _ ?_ ?_ _ _ ⟨rfl,rfl,hv⟩
 ·rintro v rest r s' ⟨hr,rfl,hall⟩
  obtain⟨i,t,rfl⟩:=hall v YM
  refine Ya (m:=hashByValue _ _) (wpAny_of_eq (a:=true) (by unfold hashByValue;rfl) ?_)
  refine YI (λz=>absurd z (by decide)) (λ_=>?_)
  exact Ye ⟨rfl,rfl,λu hu'=>hall u (YK _ hu')⟩
 ·rintro⟨r1,r2⟩ s' ⟨hr,rfl,_⟩
  simp only at hr
  subst hr
  exact Ye h
theorem unseen {k:List Int}{x:Addr}{Q:Bool->Shared->Prop} (hk:IsTupleKey (intKind prog w) s.heap k x) (vs:List Value) (hvs:∀v∈vs,∃k' y,v=.ref y/\IsTupleKey (intKind prog w) s.heap k' y) (h:Q false s):wpAny (model prog w) A (searchCouldBeSeen (.ref x) vs) Q E s:=by
 unfold searchCouldBeSeen
 refine Ya ?_
 refine wpAny_forIn_list _ (λrest r s'=>r.1=none/\s'=s/\∀v∈rest,∃k' y,v=.ref y/\IsTupleKey (intKind prog w) s.heap k' y) _ ?_ ?_ _ _ ⟨rfl,rfl,hvs⟩
 ·rintro v rest r s' ⟨hr,rfl,hall⟩
  obtain⟨k',y,rfl,hy⟩:=hall v YM
  refine YI (λ_=>Ye ⟨rfl,rfl,λu hu'=>hall u (YK _ hu')⟩) (λ_=>?_)
  refine Ya (wpAny_eqIsQuiet_tuple hk ?_)
  refine YI (λz=>absurd z (by decide)) (λ_=>?_)
  refine Ya (wpAny_eqIsQuiet_tuple hy ?_)
  refine YI (λz=>absurd z (by decide)) (λ_=>?_)
  refine Ya (ZlP hk ?_)
  refine YI (λz=>absurd z (by decide)) (λ_=>?_)
  refine Ya (ZlP hy ?_)
  refine YI (λz=>absurd z (by decide)) (λ_=>?_)
  exact Ye ⟨rfl,rfl,λu hu'=>hall u (YK _ hu')⟩
 ·rintro⟨r1,r2⟩ s' ⟨hr,rfl,_⟩
  simp only at hr
  subst hr
  exact Ye h
noncomputable def Z9 (prog:Program) (w:World) (k:List Int):Int:=tupleKeyHash (intKind prog w) k
noncomputable def ZjW (prog:Program) (w:World) (h:Heap) (es:Array (Int×Value)) (xs:List (List Int×Addr)):Prop:=es.toList=xs.map (λp=>(Z9 prog w p.1,Value.ref p.2))/\∀p∈xs,IsTupleKey (intKind prog w) h p.1 p.2
theorem ZjW.get {h:Heap}{xs:List (List Int×Addr)} (R:ZjW prog w h es xs) {i:Nat} (hi:i<es.size):∃k y,xs[i]?=some (k,y)/\es[i]?=some (Z9 prog w k,.ref y)/\IsTupleKey (intKind prog w) h k y:=by
 have e:=R.1
 have hl:es.size=xs.length:=by rw[<-Yk,e,Yh]
 refine⟨(xs[i]'(by omega)).1,(xs[i]'(by omega)).2,Yf (by omega),?_,R.2 _ (YV _)⟩
 rw[<-YL,e,YB,Yf (by omega)];rfl
theorem ZkH {k:List Int}{x:Addr}{xs:List (List Int×Addr)}{Q:SetFound->Shared->Prop} (hu:A.units<cLine) (hk:IsTupleKey (intKind prog w) s.heap k x) (hT:TabAt w s.heap a es ep t) (R:ZjW prog w s.heap es xs)
  (hin:k∈xs.map (·.1)->Q (.there none) s) (hout:k∉xs.map (·.1)->∀j,j<=t.mask->t.slot j=.empty->Front t.mask (Za3 t) j (t.probeStart (Z9 prog w k))->Q (.free j false) s) :
  ∀(n fuel:Nat) (stand:Option Probe),n<fuel->n<10*turns t.mask->Reach t n (stand.getD (t.probeStart (Z9 prog w k))) ->
   (∀i y,xs[i]?=some (k,y)->Front t.mask (Za3 t) (t.place.getD i 0) (stand.getD (t.probeStart (Z9 prog w k)))) ->
   (∀j,Front t.mask (Za3 t) j (stand.getD (t.probeStart (Z9 prog w k)))->Front t.mask (Za3 t) j (t.probeStart (Z9 prog w k))) ->
   wpAny (model prog w) A (setSearchFrom a (.ref x) (Z9 prog w k) true fuel stand) Q E s:=by
 have hT0:=hT
 obtain⟨o,h1,h2,h3,h4,h5,h6⟩:=hT
 have hl:es.size=xs.length:=by rw[<-Yk,R.1,Yh]
 intro n
 induction n using Nat.strongRecOn with
 |ind n ih =>
  intro fuel stand hf hn hR hF hB
  obtain⟨fuel,rfl⟩:∃g,fuel=g+1:=⟨fuel-1,by omega⟩
  unfold setSearchFrom
  refine Ya (wpAny_setState_of h1 h3 h4.fits ?_)
  dsimp only
  refine YI (λz=>absurd z ?_) (λ_=>?_)
  ·unfold gaveWay
   rcases h4.mask with e|e|e|e|e<;>rw[e]<;>decide
  unfold probe
  rcases ZkD h4.no h4.rise (λi=>(es[i]?.map (·.1)).getD 0) (Z9 prog w k) hR (10*turns t.mask) hn with⟨j,e,g1,g2,g3,g4⟩|⟨j,i,next,m,e,g1,g2,g3,g4,g5,g6,g7⟩
  ·generalize hG:probe.go t _ _ _ _=G
   have hG2:G=some (.empty j none):=hG.symm.trans e
   subst hG2
   refine Ye (hout (λhm=>?_) j g1 g2 (hB j g3))
   obtain⟨p,hp,ep⟩:=YD.mp hm
   obtain⟨i,hi,ei⟩:=Y3 hp
   have hx:xs[i]?=some (k,p.2):=by rw[Yf hi,ei,<-ep]
   obtain⟨k',y,q1,q2,_⟩:=R.get (i:=i) (by omega)
   rw[hx]at q1
   cases q1
   exact g4 i (by rw[h4.size];omega) (by rw[q2];rfl) (hF i _ hx)
  ·generalize hG:probe.go t _ _ _ _=G
   have hG2:G=some (.candidate j i next):=hG.symm.trans e
   subst hG2
   dsimp only
   obtain⟨k',y,q1,q2,q3⟩:=R.get (i:=i) (by rw[<-h4.size];exact g1)
   have go:wpAny (model prog w) A (do
     let some (_,y):=es[i]?|unsupported "internal:set-entry"
     let equal <-holding [y] (eqBool y (.ref x))
     let (es',_,t') <-setState a
     if true&&equal then return .there none
     let some smm:=t'.sameMemory t.moves t.mask|unsupported "set.changed-during-lookup:is-the-new-block-at-the-old-address"
     let still <-match (if smm then t'.slot j else .empty)with
      |.live i'=>match es'[i']? with
       |some (_,y')=>do pure (if <-isSame y' y then some i' else none)
       |none=>pure none
      |_=>pure none
     match still with
     |none=>rule "set.search.anew";setSearchFrom a (.ref x) (Z9 prog w k) true fuel none
     |some i'=>if equal then return .there (some i')else setSearchFrom a (.ref x) (Z9 prog w k) true fuel (some next)) Q E s:=by
    rw[q2]
    dsimp only
    refine Ya (YH ((tupleKind (intKind prog w)).eqBool hu q3 hk ?_))
    refine Ya (wpAny_setState_of h1 h3 h4.fits ?_)
    dsimp only
    by_cases hkk:k'=k
    ·rw[Y2 hkk]
     simp only[Bool.true_and,if_true]
     exact Ye (hin (hkk▸YD.mpr ⟨_,List.mem_of_getElem? q1,rfl⟩))
    ·rw[YQ hkk]
     simp only[Bool.true_and,Bool.and_false,Bool.false_eq_true,if_false]
     have hsm:t.sameMemory t.moves t.mask=some true:=by unfold sameMemory;simp
     rw[hsm]
     dsimp only
     simp only[if_true]
     rw[g2]
     dsimp only
     rw[q2]
     dsimp only
     refine Ya (m:=isSame (.ref y) (.ref y)) (wpAny_of_eq (a:=true) (by unfold isSame;simp) ?_)
     refine Ya (Ye ?_)
     simp only[if_true]
     refine ih m g4 fuel (some next) (by omega) (by omega) g5 (λi' y' hx=>?_) (λj' F=>hB j' (g6 j' F))
     obtain⟨k2,y2,r1,r2,_⟩:=R.get (i:=i') (by
      have:=Yw.mp hx
      obtain⟨hh,_⟩:=this
      omega)
     rw[hx]at r1
     cases r1
     refine g7 i' (by rw[h4.size];obtain⟨hh,_⟩:=Yw.mp hx;omega) (by rw[r2];rfl) (λz=>hkk ?_) (hF i' _ hx)
     subst z
     rw[hx]at q1;cases q1;rfl
   refine YI (λ_=>?_) (λ_=>go)
   refine Ya (unseen hk _ (λv hv=>?_) ?_)
   ·obtain⟨e',he',rfl⟩:=YD.mp hv
    have he2:e'∈es.toList:=by
     have:=Array.mem_toList_iff.mp he'
     exact Array.mem_toList_iff.mpr (Array.mem_filter.mp this).1
    rw[R.1]at he2
    obtain⟨p,hp,rfl⟩:=YD.mp he2
    exact⟨p.1,p.2,rfl,R.2 p hp⟩
   ·refine YI (λz=>absurd z (by decide)) (λ_=>go)
noncomputable def ZfJ (prog:Program) (w:World) (N:List Int->Addr->Prop) (o:Obj) (kss:List (List Int)):Prop :=
 ∃(es:Array (Int×Value)) (ep:Nat) (t:SetTable) (xs:List (List Int×Addr)),(o.ExactSet/\o.data=.set es ep t/\ST.Ok t es.size/\t.led=!w.params.followText "set-order"/\t.plain=true)/\ZfI t es /\
  es.toList=xs.map (λp=>(Z9 prog w p.1,Value.ref p.2))/\(∀p∈xs,N p.1 p.2)/\(xs.map (·.1)).Perm kss/\kss.Nodup
theorem ZfJ.fresh (prog:Program) (w:World) (N:List Int->Addr->Prop):ZfJ prog w N {cls:=.type "set",dict:=none,data:=.set #[] 0 (.fresh 0 0 (!w.params.followText "set-order"))} [] :=
 ⟨#[],0,_,[],⟨⟨rfl,rfl,rfl⟩,rfl,ZlN _ _ _,rfl,rfl⟩,λi e h=>(by cases h),rfl,λp hp=>(by cases hp),.refl _,.nil⟩
theorem Zm6 {N:List Int->Addr->Prop}{o:Obj}{kss:List (List Int)}{k:List Int}{x:Addr}{Q:Bool->Shared->Prop} (hu:A.units<cLine) (h1:s.heap.get? a=some o) (hN:∀k y,N k y->IsTupleKey (intKind prog w) s.heap k y) (hk:N k x) (hS:ZfJ prog w N o kss) (hroom:kss.length<1228)
  (h:∀b o' h' tk,Heap.SameBut a s.heap h'->h'.get? a=some o'->ZfJ prog w N o' (if k∈kss then kss else k::kss)->Q b {s with heap:=h',toks:=tk}) :
  wpAny (model prog w) A (setAdd a (.ref x)) Q E s:=by
 have hkN:=hk
 replace hk:=hN k x hk
 unfold setAdd
 refine YH (Ya ((tupleKind (intKind prog w)).pyHash hu hk ?_))
 generalize s.toks+(tupleKind (intKind prog w)).draws k=tk0
 obtain⟨es,ep,t,xs,⟨h2,h3,h4,h5,h6⟩,hF,R0,RN,e3,e4⟩:=id hS
 have R:ZjW prog w s.heap es xs:=⟨R0,λp hp=>hN _ _ (RN p hp)⟩
 have hl:es.size=xs.length:=by rw[<-Yk,R.1,Yh]
 have hlen:es.size=kss.length:=by rw[hl,<-Yh (f:=(·.1)),e3.length_eq]
 show wpAny _ _ (setAddHashed a (.ref x) (Z9 prog w k)) _ _ _
 unfold setAddHashed setAddHashedIn
 refine YH (Ya (wpAny_setState_of (s:={s with toks:=tk0}) h1 h3 h4.fits ?_))
 dsimp only
 rw[show byScan (.ref x) es=false from rfl]
 simp only[Bool.false_eq_true,if_false]
 unfold setSearch
 obtain⟨n0,hn0,S0⟩:=h4.start (Z9 prog w k)
 have hsm:n0<100000:=by
  have:=h4.mask
  unfold turns at hn0
  rcases this with e|e|e|e|e<;>rw[e]at hn0<;>omega
 refine Ya (ZkH (s:={s with toks:=tk0}) (xs:=xs) hu hk ⟨o,h1,h2,h3,h4,h5,h6⟩ R (λhm=>?_) (λhm j g1 g2 g3=>?_) n0 100000 none hsm hn0 S0 (λi y hx=>?_) (λj F=>F))
 ·have hm':k∈kss:=e3.mem_iff.mp hm
  exact Ye (h false o s.heap tk0 (Heap.SameBut.refl a s.heap) h1 (by rw[Yc hm'];exact hS))
 ·have hm':k∉kss:=λz=>hm (e3.mem_iff.mpr z)
  dsimp only
  refine Ya (wpAny_setState_of (s:={s with toks:=tk0}) h1 h3 h4.fits ?_)
  dsimp only
  obtain⟨p1,p2,p3,p4,p5,p6,p7⟩:=ZkG (k:=Z9 prog w k) (x:=.ref x) h4 rfl (by omega) g1 g2
  have pF:=Zjc (k:=Z9 prog w k) (x:=.ref x) h4 hF g1 g2 g3
  have hdone:∀(es2:Array (Int×Value)) (ep2:Nat) (t2:SetTable),Ok t2 (es.size+1)->t2.led=t.led->t2.plain=t.plain->ZfI t2 es2->es2.toList.Perm ((Z9 prog w k,.ref x)::es.toList)->ZfJ prog w N {o with data:=.set es2 ep2 t2} (if k∈kss then kss else k::kss):=by
   intro es2 ep2 t2 hO hl2 hp hF2 hq
   rw[Yb hm']
   have hsz:es2.size=es.size+1:=by rw[<-Yk,hq.length_eq,Yz,Yk]
   obtain⟨ys,y1,y2⟩:=Zin (f:=λp:List Int×Addr=>(Z9 prog w p.1,Value.ref p.2)) hq ((k,x)::xs) (by rw[YC,<-R.1])
   refine⟨es2,ep2,t2,ys,⟨h2,rfl,by rw[hsz];exact hO,hl2.trans h5,hp.trans h6⟩,hF2,y1,λp hp=>?_,(List.Perm.map (λp:List Int×Addr=>p.1) y2).trans (List.Perm.cons k e3),List.nodup_cons.mpr ⟨hm',e4⟩⟩
   rcases Yj.mp (y2.mem_iff.mp hp)with rfl|hp
   ·exact hkN
   ·exact RN p hp
  rw[show(t.put j).1.plain=true from p5.trans h6]
  simp only[if_true]
  refine Ya (by_val (s:={s with toks:=tk0}) hk ?_)
  simp only[if_true]
  refine Ya (wpAny_storeSet_of (s:={s with toks:=tk0}) h1 h3 ?_ (ZfH (by rw[p2];omega)))
  have k1:=ZjV h1 h3 (insertAt es (t.put j).2 (Z9 prog w k,.ref x)) (t.put j).1
  have k2:=Heap.SameBut.update s.heap a (Obj.putSet (insertAt es (t.put j).2 (Z9 prog w k,.ref x)) (t.put j).1)
  cases hf:(t.put j).1.tooFull with
  |false =>
   refine YI (λz=>absurd z (by decide)) (λ_=>?_)
   exact Ye (h true _ _ tk0 k2 k1 (hdone _ _ _ (p6 hf) p4 p5 pF p1))
  |true =>
   obtain⟨t2,order,r1,r2,r3,r4,r5,r6,r7,r8,r9⟩:=p7 hf
   refine YI (λ_=>?_) (λz=>absurd (by decide) z)
   unfold setRelay
   refine Ya ?_
   refine Ya (wpAny_setState_of (s:={s with toks:=tk0,heap:=s.heap.update a (Obj.putSet (insertAt es (t.put j).2 (Z9 prog w k,.ref x)) (t.put j).1)}) k1 rfl (by rw[p2];exact p3) ?_)
   dsimp only
   refine YI (λz=>absurd z (Nat.not_lt.mpr (Yn r6 (by decide)))) (λ_=>?_)
   rw[r1]
   generalize insertAt es (t.put j).2 (Z9 prog w k,.ref x)=es1 at p1 p2 k1 k2 r1 r7 r8 r9⊢
   have go:wpAny (model prog w) A (do
     let some (t,order):=(some (t2,order):Option (SetTable×Array Nat))|unsupported "internal:set-table-without-room"
     let es':=order.filterMap (es1[·]?)
     if es'.size != es1.size then unsupported "internal:set-table-lost-an-element"
     pure (es',t)) (λr s'=>wpAny (model prog w) A (storeSet a r.1 r.2) (λ_ s'=>wpAny (model prog w) A (pure true) Q E s') E s') E {s with heap:=s.heap.update a (Obj.putSet es1 (t.put j).1),toks:=tk0}:=by
    dsimp only
    refine YI (λz=>absurd z (by rw[r8,p2];simp)) (λ_=>?_)
    refine Ye ?_
    refine(wpAny_storeSet_of (s:={s with heap:=s.heap.update a (Obj.putSet es1 (t.put j).1),toks:=tk0}) k1 rfl ?_ (ZfH (by dsimp only;rw[r8];omega)))
    have k3:=ZjV k1 rfl (order.filterMap (es1[·]?)) t2
    have k4:=k2.trans (Heap.SameBut.update _ a (Obj.putSet (order.filterMap (es1[·]?)) t2))
    exact Ye (h true _ _ tk0 k4 k3 (hdone _ _ _ r2 r3 r4 r9 r7))
   exact Ya go
 ·obtain⟨k2,y2,q1,q2,_⟩:=R.get (i:=i) (by obtain⟨hh,_⟩:=Yw.mp hx;omega)
  rw[hx]at q1
  cases q1
  exact hF i _ q2
end
end ST
namespace L2
open PySem PySem.Spec PyProof.Rows PySem.W
theorem ZfK {P:Program}{w:World}:∀{ks:List Int}{us:List Value},Vals (ks.map V.int) us->ItemsAre (intKind P w) ks us
 |[],_,.nil=>.nil
 |k::ks,_,.cons e r=>by
  obtain⟨t,rfl⟩:=(show ∃t,_=Value.int k t from e)
  exact .cons (intKind_is _ _ _ _) (ZfK r)
theorem ZlQ {P:Program}{w:World}{H:Hp}{h:Heap}{q:Addr}{k:List Int} (hok:HOk P w H h) (hq:H q=some (.tup (k.map V.int))):IsTupleKey (intKind P w) h k q:=by
 obtain⟨_,its,hv,o,e,hc,n,hd⟩:=hok q _ hq
 exact⟨o,its.toArray,n,e,hc,hd,by simpa using ZfK hv⟩
end L2
namespace L2
open PySem PySem.Spec PyProof.Rows PySem.W
section
variable {X:Cx}
noncomputable def tTryH (K:PySem.W.Frag) (D:Addr) (tb:(St->XK)->TS) (ts:TS):TS:=λDe σ H=>∃Ec:St->XK,tb Ec De σ H/\∀σ1 C H1,Ec σ1 C none H1->∃C',C=.ref C'/\PySem.W.mroIn K C' (.ref D)=some true /\
 ∀e,H1 e=none->ts {nx:=De.nx,rt:=λ_ _=>False} σ1 (upd H1 e (ExcO e C'))
theorem Zm7 {body:List Stmt}{x:Str}{np hpos pos:Pos}{b0:Stmt}{Zdg:List Stmt}{D:Addr}{tb:(St->XK)->TS}{ts:TS}
  (hst:X.stack=X.env::X.outer/\X.env.frame=some X.env.locals)
  (hg:Gl X x) (hm:X.mg x=some (.ref D)) (qD:PySem.W.excIn X.K D bmV newV=true) (hb:∀Ec pl,PSs (X.tries Ec pl) body (tb Ec)) (hs:∀A',PSs (X.Zdg A') (b0::Zdg) ts)
  (hd:(x==("__debug__":Str))=false:=by decide) :
  PS X (.Try body [.ExceptHandler (some (.Name x np)) none (b0::Zdg) hpos] [] [] pos) (tTryH X.K D tb ts):=by
 intro pins s σ H De I h
 obtain⟨Ec,hb1,hx⟩:=h
 refine wpAny_Try_except (YT (hb Ec pins [] s σ H De (I.tries Ec) hb1) (λfl s1 q=>?_) λev s1 q=>?_)
 ·cases fl with
  |next=>obtain⟨σ',H',I',q⟩:=q;exact wpAny_execs_nil ⟨σ',H',I'.ZdR,q⟩
  |brk=>obtain⟨σ',H',I',q⟩:=q;exact⟨σ',H',I'.ZdR,q⟩
  |cont=>obtain⟨σ',H',I',q⟩:=q;exact⟨σ',H',I'.ZdR,q⟩
  |ret u=>obtain⟨v,σ',H',I',r,q⟩:=q;exact⟨v,σ',H',I'.ZdR,r,q⟩
 ·obtain⟨σ1,H1,s0,I1,e,C,a0,H',B,rfl,F,hE⟩:=q
  obtain⟨C',rfl,hup,hx⟩:=hx σ1 C H' hE
  refine wpAny_looks_onW (by rw[I.ok.frames,hst.1]) hst.2 (hst.1▸F.fly) λh4 held sm4=>?_
  refine wpAny_landsW held λh5 fl5 sm5=>?_
  have fl5':Heap.FlyingW B X.stack e (.ref C') a0 h5:=by rw[hst.1];exact fl5
  obtain⟨hHe,I5⟩:=F.land I1 fl5' (sm4.trans sm5)
  refine wpAny_handleBy_cons (codeAny_handlers_test ?_) (by intro q;cases q)
  have I5s:=I5.Zdg (A':=X.A.mark (some (.ref e))) rfl
  refine Zfc (X:=X.Zdg (X.A.mark (some (.ref e)))) I5s hg hm ?_ hd
  obtain⟨tl,Nn,nm,qn,bs,hdct,sn,sub,ab,col,dd,k0,k1,k2,k3,k5,mN,hC,_,_,T⟩:=(Zlu (x:=x) I5.kIn hm qD).obj
  obtain⟨oe,hoe,hoc⟩:=fl5.there
  refine Zgj (PySem.W.looks_mroIn I5.kIn hup) hC hoe hoc (T.hasType PySem.F.excBase_ValueError.hasBase) ?_
  refine codeAny_handlers_suite ?_
  refine lands_againW fl5 λh6 fl6 sm6=>?_
  obtain⟨_,I6⟩:=F.land I1 (h5:=h6) (by rw[hst.1];exact fl6) ((sm4.trans sm5).trans sm6)
  refine YT (hs _ pins _ _ _ _ (I6.Zdg rfl) (hx e hHe)) (λfl s8 q=>?_) λ_ _ z=>z.elim
  cases fl with
  |brk=>obtain⟨_,_,_,q⟩:=q;exact q.elim
  |cont=>obtain⟨_,_,_,q⟩:=q;exact q.elim
  |ret u=>obtain⟨_,_,_,_,_,q⟩:=q;exact q.elim
  |next =>
   obtain⟨σ8,H8,I8,q8⟩:=q
   exact⟨σ8,H8,I8.ZmS I.ok,q8⟩
end
end L2
namespace ST
open PySem PySem.Spec PySem.SetTable PyProof.Rows PySem.W
section
variable {prog:Program}{w:World}{A:Around}{R:Result->Shared->Prop}{I S:Addr}{fp wr:List Addr}{n:Nat}{P:Nat->Value->Prop}{St:Nat->Heap->Prop}{SK:Nat->Heap->Prop}
theorem ZkI (W:∀A',A'.handled=none->Walks prog w A' I fp wr n P St) (hh:A.handled=none) (hSf:S∉fp) (keep:∀i h h',SK i h->(∀b o,b∉wr->h.get? b=some o->h'.get? b=some o)->SK i h')
  (add:∀(A':Around),A'.units<=A.units+1->∀i v (s:Shared) (Q:Bool->Shared->Prop) (E:Value->Shared->Prop),i<n->P i v->SK i s.heap->(∀u h' tk,Heap.SameBut S s.heap h'->SK (i+1) h'->Q u {s with heap:=h',toks:=tk})->wpAny (model prog w) A' (setAdd S v) Q E s) :
  ∀(k i:Nat) (s:Shared),n-i=k->i<=n->St i s.heap->SK i s.heap ->
   (∀h' tk,(∀b o,b∉S::wr->s.heap.get? b=some o->h'.get? b=some o)->SK n h'->R (.ok (.ret .none)) {s with heap:=h',toks:=tk}) ->
   codeAny (model prog w) A (.builtin "set.update.loop" ⟨[.ref S,.ref I],[]⟩) R s:=by
 intro k
 induction k with
 |zero =>
  intro i s hk hi st sk hR
  have:i=n:=by omega
  subst this
  refine codeAny_builtin F.entry_set_update_loop ?_
  rw[Around.under_plainId F.plain_set_update_loop _]
  show wpAny _ A.in1 (pyNext (.ref I) >>= _) _ _ s
  refine Ya ((W A.in1 hh).done s _ _ st λh' tk hkp=>?_)
  show wpAny _ A.in1 (ret Value.none) _ _ _
  exact Ye (hR h' tk (λb o hb e=>hkp b o (λz=>hb (.tail _ z)) e) (keep _ _ _ sk hkp))
 |succ k ih =>
  intro i s hk hi st sk hR
  refine codeAny_builtin F.entry_set_update_loop ?_
  rw[Around.under_plainId F.plain_set_update_loop _]
  show wpAny _ A.in1 (pyNext (.ref I) >>= _) _ _ s
  refine Ya ((W A.in1 hh).item i s _ _ (by omega) st λv h' tk hP st' hkp=>?_)
  show wpAny _ A.in1 (holding [v] (setAdd S v) >>= _) _ _ _
  refine Ya (YH ?_)
  refine add A.in1 (Yd _) i v _ _ _ (by omega) hP (keep _ _ _ sk hkp) λu h2 tk2 hs sk2=>?_
  refine Ye ⟨plainId_quiet F.plain_set_update_loop _,ih (i+1) _ (by omega) (by omega) ((W A.in1 hh).frame _ h' _ st' λb hb o e=>?_) sk2 λh3 tk3 hk3 sk3=>hR h3 tk3 (λb o hb e=>?_) sk3⟩
  ·rw[hs.2 b (λz:b=S=>hSf (z▸hb))];exact e
  ·refine hk3 b o hb ?_
   show h2.get? b=some o
   rw[hs.2 b (λz:b=S=>hb (by rw[z];exact .head _))]
   exact hkp b o (λz=>hb (.tail _ z)) e
end
section
variable {prog:Program}{w:World}{A:Around}{E:Value->Shared->Prop}{s:Shared}{T:String}{l:Addr}{n:Nat}{P:Nat->Value->Prop}{OK:Heap->Prop}{SK:Addr->Nat->Heap->Prop}
theorem ZkJ {Q:Value->Shared->Prop} (Sr:Src prog w T l n P OK) (hh:A.handled=none) (ok:OK s.heap) (hl:l<s.heap.objs.size)
  (start:∀h',(h'.get? s.heap.objs.size=some {cls:=.type "set",dict:=none,data:=.set #[] 0 (.fresh 0 0 (!w.params.followText "set-order"))})->(∀b o,s.heap.get? b=some o->h'.get? b=some o)->SK s.heap.objs.size 0 h')
  (keep:∀S i h h',SK S i h->(∀b o,b≠s.heap.objs.size+1->h.get? b=some o->h'.get? b=some o)->SK S i h')
  (add:∀(A':Around),A'.units<=A.units+20->∀S i v (s':Shared) (Q:Bool->Shared->Prop) (E:Value->Shared->Prop),i<n->P i v->SK S i s'.heap->(∀u h' tk,Heap.SameBut S s'.heap h'->SK S (i+1) h'->Q u {s' with heap:=h',toks:=tk})->wpAny (model prog w) A' (setAdd S v) Q E s')
  (h:∀(h':Heap) (tk:Nat),SK s.heap.objs.size n h'->(∀b o,b<s.heap.objs.size->s.heap.get? b=some o->h'.get? b=some o)->Q (.ref s.heap.objs.size) {s with heap:=h',toks:=tk}) :
  wpAny (model prog w) A (call (.type "set") [.ref l]) Q E s:=by
 obtain⟨c,tl,hmro⟩:=F.called_set.mro
 have hmade:=F.called_set.made
 have hsub:=F.called_set.sub
 refine wpAny_call (codeAny_of_tree ?_)
 show wpAny _ _ (callAny (.type "set") _) _ _ _
 refine Ye ⟨Code.quiet_builtin _ (by decide +kernel),codeAny_builtin F.entry_type_call ?_⟩
 rw[Around.under_plain (weight_type_call_type "set" [.ref l] []) rfl]
 have h1:=F.called_set.notType
 have h2:=F.called_set.canCreate
 have hct:=F.typeCall_set_1 (.ref l)
 repeat (any_goals (first|assumption|wp_step))
 have hg:(s.heap.push {cls:=.type "set",dict:=none,data:=.set #[] 0 (.fresh 0 0 (!w.params.followText "set-order"))}).get? s.heap.objs.size=some {cls:=.type "set",dict:=none,data:=.set #[] 0 (.fresh 0 0 (!w.params.followText "set-order"))}:=Yy _ rfl
 refine codeAny_mono (Zm5 (.ref l) (E:=E) (Q₁:=λobj s₁=>obj=.ref s.heap.objs.size/\s₁={s with heap:=s.heap.push {cls:=.type "set",dict:=none,data:=.set #[] 0 (.fresh 0 0 (!w.params.followText "set-order"))}}) ⟨rfl,rfl⟩) λr s₁ hr=>?_
 cases r with
 |error e=>exact hr
 |ok fl =>
  cases fl with
  |ret obj =>
   obtain⟨rfl,rfl⟩:=hr
   have hT:Shared.TypeIs {s with heap:=s.heap.push {cls:=.type "set",dict:=none,data:=.set #[] 0 (.fresh 0 0 (!w.params.followText "set-order"))}} (.ref s.heap.objs.size) "set":=⟨_,hg,rfl⟩
   have hli:=F.called_set.init.lookup
   have hbi:=F.called_set.init.bind (.ref s.heap.objs.size)
   repeat (any_goals (first|assumption|wp_step))
   refine codeAny_mono (codeAny_call_builtin (R:=wants (λr s₂=>r=.none/\∃h' tk,s₂={s with heap:=h',toks:=tk}/\SK s.heap.objs.size n h'/\(∀b o,b<s.heap.objs.size->s.heap.get? b=some o->h'.get? b=some o)) E) F.called_set.init.plain F.entry_set_init (check_set_init_1 hT ?_)) λr₂ s₂ hr₂=>?_
   ·have ok1:OK (s.heap.push {cls:=.type "set",dict:=none,data:=.set #[] 0 (.fresh 0 0 (!w.params.followText "set-order"))}):=Sr.keep _ _ ok λo e=>Ym _ e
    have hTl:Shared.TypeIs {s with heap:=s.heap.push {cls:=.type "set",dict:=none,data:=.set #[] 0 (.fresh 0 0 (!w.params.followText "set-order"))}} (.ref l) T:=Sr.type _ ok1
    have hs1:=Sr.sub1
    have hs2:=Sr.sub2
    have hnd:=Sr.notd
    unfold Builtin.«set.__init__» noKeywords Builtin.Frozenset.updateFrom
    generalize hPI:pyIter=PI
    wp_walk
    subst hPI
    have hz:(s.heap.push {cls:=.type "set",dict:=none,data:=.set #[] 0 (.fresh 0 0 (!w.params.followText "set-order"))}).objs.size=s.heap.objs.size+1:=by rw[Heap.size_push]
    obtain⟨oI,St,hit,hW,hst⟩:=Sr.iter A.in1.in1 {s with heap:=s.heap.push {cls:=.type "set",dict:=none,data:=.set #[] 0 (.fresh 0 0 (!w.params.followText "set-order"))}} (by simp[hh]) ok1
    refine hit _ _ ?_
    refine Ya (wpAny_runValue ?_)
    dsimp only at hW hst⊢
    rw[hz]at hW⊢
    refine ZkI (SK:=SK s.heap.objs.size) (S:=s.heap.objs.size) hW (by simp[hh]) ?_ (λi h h' x k=>keep _ i h h' x λb o hb e=>k b o (λz=>hb (YW.mp z)) e) (λA' hA i v s' Q E=>add A' (by simp only[Around.in1_units,Around.under,Around.deeper]at hA;omega) _ i v s' Q E) n 0 _ (by omega) (Yp _) hst ?_ (λh' tk hk sk=>?_)
    ·simp only[Yj,List.not_mem_nil,or_false,not_or]
     exact⟨Yl (Nat.lt_succ_self _),Nat.ne_of_gt hl⟩
    ·exact start _ (Ym _ hg) λb o e=>Ym _ (Ym _ e)
    ·show wpAny _ _ _ _ _ _
     refine Ye ?_
     show wpAny _ _ (ret Value.none) _ _ _
     refine Ye ⟨rfl,h',tk,rfl,sk,λb o hb e=>hk b o ?_ (Ym _ (Ym _ e))⟩
     simp only[Yj,List.not_mem_nil,or_false,not_or]
     exact⟨Yl hb,Yl (YS hb)⟩
   ·cases r₂ with
    |error e=>exact hr₂
    |ok f2 =>
     cases f2 with
     |ret r =>
      obtain⟨rfl,h',tk,rfl,sk,hk⟩:=hr₂
      repeat (any_goals (first|assumption|wp_step))
      exact h _ _ sk hk
     |_=>exact hr₂.elim
  |_=>exact hr.elim
end
end ST
namespace L2
open PySem PySem.Spec PyProof.Rows PySem.W
section
variable {X:Cx}
noncomputable def ZlR (K:Frag):List V->Hp->VK->Prop:=λxs H Q=>∃(p:Addr) (rs:List (List Int)),xs=[.ref p]/\TupsAt H p rs/\rs.length<=1000/\∀(q:Addr) (kss:List (List Int)),H q=none->kss.Nodup->(∀k,k∈kss↔k∈rs)->Q (.ref q) (upd H q (.ext (ZkB q kss.length)))
theorem ZlS {P:Program}{w:World}{h h':Heap}{k:List Int}{x:Addr} (hk:IsTupleKey (intKind P w) h k x) (e:∀o,h.get? x=some o->h'.get? x=some o):IsTupleKey (intKind P w) h' k x:=by
 obtain⟨o,items,n,ho,r⟩:=hk
 exact⟨o,items,n,e _ ho,r⟩
theorem ZkK {K:Frag}{k:Nat} (hK:X.K=K) (hc:X.calm=true) (hr:Room k X.A):Za7 X (.type "set") (ZlR K):=by
 subst hK
 intro pins s σ H xs us Q I r h
 obtain⟨p,rs,rfl,⟨as,hp,hla,hT⟩,hn,q⟩:=h
 obtain⟨u,rfl,ru⟩:=r.one
 cases(show u=Value.ref p from ru)
 obtain⟨its,rv,pl,hz⟩:=I.list (SqL.of hp)
 have hl:its.length=as.length:=by have:=rv.length;rw[Yh]at this;exact this.symm
 have hu:X.A.units+20<cLine:=by have:=hr.un;omega
 let N:List Int->Addr->Prop:=λk y=>IsTupleKey (intKind X.prog X.w) s.heap k y
 have hit:∀i v,its.toArray[i]?=some v->∃(k:List Int) (y:Addr),v=Value.ref y/\rs[i]?=some k/\N k y/\y<s.heap.objs.size:=λi v hv=>by
  rw[List.getElem?_toArray]at hv
  have hi:i<its.length:=(Yw.mp hv).1
  have h1:=hT i (by omega) (by omega)
  have rvi:RelV (V.ref as[i]) v:=by
   have:=rv.get (i:=i) (x:=V.ref as[i]) (by rw[YB,Yf (by omega)];rfl)
   obtain⟨w',e,r'⟩:=this
   rw[hv]at e
   cases e
   exact r'
  refine⟨rs[i]'(by omega),as[i]'(by omega),rvi,Yf (by omega),ZlQ I.hok h1,?_⟩
  obtain⟨u',hu'⟩:=(I.hok _ _ h1).has
  exact Yi hu'
 refine ST.ZkJ (SK:=λS i h=>∃o kss,h.get? S=some o/\ST.ZfJ X.prog X.w N o kss/\S=s.heap.objs.size/\(∀k,k∈kss↔k∈rs.take i)/\kss.length<=i/\∀b o,b<s.heap.objs.size->s.heap.get? b=some o->h.get? b=some o) (ST.src_list its.toArray) (I.ok.hd hc) pl.isList (have⟨_,e,_⟩:=pl.isList;Yi e) (λh' e ke=>?_) (λS i h h' x ke=>?_) (λA' hA S i v s' Q' E' hi' hP x kq=>?_) (λh' tk x ke=>?_)
 ·exact⟨_,[],e,ST.ZfJ.fresh _ _ N,rfl,λk=>by simp,Yd _,λb o _ hb=>ke b o hb⟩
 ·obtain⟨o,kss,a1,a2,a3,a4,a5,a6⟩:=x
  exact⟨o,kss,ke S o (by rw[a3];exact Yl (Nat.lt_succ_self _)) a1,a2,a3,a4,a5,λb o hb e=>ke b o (by omega) (a6 b o hb e)⟩
 ·obtain⟨o,kss,a1,a2,a3,a4,a5,a6⟩:=x
  obtain⟨k,y,rfl,hk,hN,hy⟩:=hit i v hP
  have hir:i<rs.length:=(Yw.mp hk).1
  refine ST.Zm6 (N:=N) (YE hA hu) a1 (λk' y' n=>?_) hN a2 (by omega) λb o' h' tk hs ho hS=>kq b h' tk hs ⟨o',_,ho,hS,a3,λz=>?_,?_,λb' ob hb e=>?_⟩
  ·have n:IsTupleKey (intKind X.prog X.w) s.heap k' y':=n
   exact ZlS n λob e=>a6 _ ob (Yi e) e
  ·have et:rs.take (i+1)=rs.take i++[k]:=by rw[YO,hk];rfl
   rw[et,Ys,YW]
   split
   ·rename_i hm
    exact⟨λw=>.inl ((a4 z).mp w),λw=>w.elim (a4 z).mpr λw=>w▸hm⟩
   ·rw[Yj,a4 z]
    exact⟨λw=>w.elim .inr .inl,λw=>w.elim .inr .inl⟩
  ·split
   ·omega
   ·rw[Yz];omega
  ·rw[hs.2 b' (by rw[a3];exact Yl hb)];exact a6 b' ob hb e
 ·obtain⟨o,kss,a1,a2,a3,a4,a5,a6⟩:=x
  obtain⟨es,ep,t,xs,⟨b1,b2,b3,b4,b5⟩,_,b6,_,b7,b8⟩:=a2
  have hsz:es.size=kss.length:=by rw[<-Yk,b6,Yh,<-b7.length_eq,Yh]
  have hkl:kss.length<=1000:=by rw[Yv]at a5;omega
  refine⟨.ref s.heap.objs.size,_,I.laid (t':=tk) (a:=s.heap.objs.size) (o:=.ext (ZkB s.heap.objs.size kss.length)) (λb ob e=>ke b ob (Yi e) e) (Yd _) ⟨⟨o,es,ep,t,by rw[<-a3];exact a1,b1,b2,b3.fits,hsz,YE hkl (by decide)⟩,⟨_,by rw[<-a3];exact a1⟩,λh1 h2 e k=>?_⟩,rfl,q _ kss (I.hok.fresh (Yd _)) b8 λk=>?_⟩
  ·obtain⟨o,es,ep,t,c1,c2⟩:=e
   exact⟨o,es,ep,t,k o c1,c2⟩
  ·rw[a4 k,Yv,List.take_of_length_le (by omega)]
end
section
variable {X:Cx}
noncomputable def Zhv (cs:List (V×Sp)) (E:St->XK) (tf:TE) (t:TA):TE:=fun σ H Q=>tf σ H λx H1=>∃sp,(x,sp)∈cs/\t σ H1 λvs H2=>sp vs H2 Q (E σ)
theorem ZkL {cs:List (V×Sp)}{E:St->XK}{fx e:Expr}{es:List Expr}{tf:TE}{t:TA}{pos:Pos} (hc:ZjR X cs) (hx:∀pins σ H s ev s',Inv X pins σ H s->CXE X.prog X.w X.stack H s (E σ) ev s'->X.xe ev s') (hf:PE X fx tf) (ha:PA X (e::es) t)
  (hev:eval (.Call fx (e::es) [] pos) X.env=(do callWith pos (<-eval fx X.env) [] (backTo pos (starEach (e::es) X.env)) (backToKw pos (keywordEach [] X.env))):=by rfl)
  (he:starEach (e::es) X.env=(false,eval e X.env)::starEach es X.env:=by rfl) (hpl:(backTo pos (starEach es X.env)).any (·.1)=false:=by rfl):PE X (.Call fx (e::es) [] pos) (Zhv cs E tf t):=by
 intro pins s σ H Q I h
 refine Call_ (thn (hf pins s σ H _ I h) λv s1 ⟨x,H1,I1,r1,sp,hm,q1⟩=>?_) hev
 obtain⟨f,fd,ps,k,ex,F,hr,hk,hb⟩:=hc _ hm
 cases(show x=.ref f from ex)
 cases r1
 refine PySem.W.callWith_K (h₀:=X.base) I1.ok.mod.kin hk (thn (ha pos pins s1 σ H1 _ I1 q1) λus s2 ⟨vs,H2,I2,r,q⟩=>⟨I2.kIn,?_⟩) he hpl
 exact Zm1 F hr hb (λev s' z=>hx _ _ _ _ _ _ I2 z) I2 r (by simpa using q)
end
section
variable {X:Cx}
theorem pe_bmE {K:Frag}{T:String}{id:String}{name:Str}{r:V->List V->Hp->VK->Prop}{o e:Expr}{es:List Expr}{to:TE}{t:TA}{apos cpos:Pos} (hK:X.K=K) (pa:PlainAttrs T) (slot:Slot T name id) (hty:typeOf (.builtin id)=pure (.type "method_descriptor")) (hm:MtR X id r) (ho:PE X o to) (ha:PA X (e::es) t)
  (hbase:attributeBase o name X.env (eval o X.env)=eval o X.env:=by rfl)
  (hfew:((backTo cpos (starEach (e::es) X.env)).all (λx=>!x.1)&&(backToKw cpos (keywordEach [] X.env)).all (λx=>x.1.isSome)
   && decide ((e::es).length+([]:List Keyword).length+(if ([]:List Keyword).isEmpty then 0 else 1)<30))=true:=by rfl)
  (hline:(apos.endLine==cpos.line)=true:=by rfl) (hs:starEach (e::es) X.env=(false,eval e X.env)::starEach es X.env:=by rfl) (hplain:(backTo cpos (starEach es X.env)).any (·.1)=false:=by rfl) :
  PE X (.Call (.Attribute o name apos) (e::es) [] cpos) (tBM K T r to t):=by
 subst hK
 exact Zcy pa slot hty hm ho ha hbase hfew hline hs hplain
theorem Zjd {mg:Str->Option Value}{x:Str}{k:Nat}{ps:List Str}{sp:Sp}{pos:Pos} (hmg:X.mg=mg) (C:Callee X.prog X.w X.K X.mg X.base x k ps sp) (hg:Gl X x) (hd:(x==("__debug__":Str))=false:=by decide):PE X (.Name x pos) (tC (.ref (clsAt mg x))):=by
 subst hmg
 exact pe_fn C hg hd
end
end L2
namespace K14
open PySem PySem.Spec PyProof.Rows L2
open PySem.W (nsIn mg_of fnOf keepIn codeIn mg_none_of)
local macro_rules | `(tactic| walk_at "rd") => `(tactic| simp only [tIfS, tNot, tTest, tChain, rI0, rI, rU, tVar, tC, tB, tCall, tCons, tNil, tAsg, tSeq, tRet, tNext, tOp, tUn, tAnd, tOr, tDrop, gName, gSub, tAug, tCB, tRaise, tLst, tTup, L2.start, tYes, gTup, gCons, gNil, iniC, Option.join_some, Option.join_none, rEq, rNe, ZjD, ZjE, ZjF, ZjG, ZjH, ZjI, tBM, Bool.true_eq_false, YC, List.map_nil, List.cons_append, List.nil_append, Yz, List.length_nil, List.replicate, List.append_nil, List.set_cons_zero, List.set_cons_succ, List.getElem?_cons_zero, List.getElem?_cons_succ, Option.some.injEq, V.int.injEq, V.bl.injEq, V.ref.injEq, List.cons.injEq, and_true, true_and, exists_eq_left, exists_eq_left', exists_and_left, exists_eq, decide_eq_true_eq, Bool.not_eq_true', decide_eq_false_iff_not, cxK, and_assoc, Bool.false_eq_true, ↓reduceIte, ZjC, ZgD, ZhV, iRng1, iList, iTup, rIxL, rIxT, rSetL, rIsi, rSum, tDelT, rIndex, rLen, rTof, rIxS, rEqD, rIn, iEnumT, tMaxD, tMinD, rAll, rIxQ, ipI, rAppend, rRep, ZjK, Zly, Zhv, ZlR, tAugS, rMulS, rJoin, iStr, rSumT, V.str.injEq, rCountS, rLenS, rLenSet, rIxS])
noncomputable def top (i:Nat):Stmt:=PySem.Challenge.pw_dipkin_k14_whole_all_small_trees.main.body.getD i (.Pass ⟨0,0,0,0⟩)
noncomputable abbrev s_settle:Stmt:=top 6
noncomputable abbrev s_tree_of:Stmt:=top 7
noncomputable abbrev s_way_up:Stmt:=top 8
noncomputable abbrev Zbg:Stmt:=top 9
noncomputable abbrev Zao:Stmt:=top 10
noncomputable abbrev Zap:Stmt:=top 11
noncomputable abbrev ZaL:Stmt:=top 13
noncomputable abbrev ZU:Stmt:=top 14
noncomputable abbrev Z3:Stmt:=top 15
noncomputable abbrev Zbh:Stmt:=top 16
noncomputable abbrev ZO:Stmt:=top 17
noncomputable abbrev ZaM:Stmt:=top 18
noncomputable abbrev ZV:Stmt:=top 19
noncomputable abbrev ZaN:Stmt:=top 21
noncomputable abbrev s__law_take:Stmt:=top 22
noncomputable abbrev ZW:Stmt:=top 23
noncomputable abbrev Z4:Stmt:=top 24
noncomputable abbrev Zaq:Stmt:=top 25
noncomputable abbrev ZaO:Stmt:=top 26
noncomputable abbrev ZP:Stmt:=top 27
noncomputable abbrev Zar:Stmt:=top 28
noncomputable abbrev s_law:Stmt:=top 29
structure Txt (K:PySem.W.Frag) (mg:Str->Option Value):Prop where
 b_all:mg "all"=none
 b_enumerate:mg "enumerate"=none
 b_isinstance:mg "isinstance"=none
 b_len:mg "len"=none
 b_max:mg "max"=none
 b_min:mg "min"=none
 b_range:mg "range"=none
 b_set:mg "set"=none
 b_sum:mg "sum"=none
 b_tuple:mg "tuple"=none
 c_DipError:mg "DipError"=some (.ref (clsAt mg "DipError"))
 x_DipError:PySem.W.excIn K (clsAt mg "DipError") bmV newV=true
 c_NoTree:mg "NoTree"=some (.ref (clsAt mg "NoTree"))
 x_NoTree:PySem.W.excIn K (clsAt mg "NoTree") bmV newV=true
 c_NoTelling:mg "NoTelling"=some (.ref (clsAt mg "NoTelling"))
 x_NoTelling:PySem.W.excIn K (clsAt mg "NoTelling") bmV newV=true
 ex_NoTelling:ExK K (clsAt mg "NoTelling")
 up_NoTelling:PySem.W.mroIn K (clsAt mg "NoTelling") (.ref (clsAt mg "DipError"))=some true
 ups_NoTelling:PySem.W.mroIn K (clsAt mg "NoTelling") (.ref (clsAt mg "NoTelling"))=some true
 is_NoTelling_DipError:PySem.W.kitOne K (.ref (clsAt mg "NoTelling")) (.ref (clsAt mg "DipError"))=some true
 is_NoTelling_NoTree:PySem.W.kitOne K (.ref (clsAt mg "NoTelling")) (.ref (clsAt mg "NoTree"))=some false
 is_NoTelling_NoTelling:PySem.W.kitOne K (.ref (clsAt mg "NoTelling")) (.ref (clsAt mg "NoTelling"))=some true
 is_NoTelling_V:PySem.W.kitOne K (.ref (clsAt mg "NoTelling")) (.type "ValueError")=some true
 m_MOST_PLACES:mg "MOST_PLACES"=some (.int 40 (tokAt mg "MOST_PLACES"))
noncomputable abbrev SpT:=PySem.W.Frag->(Str->Option Value)->Sp
noncomputable def spLaw (K:PySem.W.Frag):Sp:=λvs H Q E=>∃(a:Addr) (ns:List Int),vs=[.ref a]/\SqL K H a (ns.map V.int)/\ns.length<=63/\∀H',Q (.bl true) H'
noncomputable def ZcJ:SpT:=λK mg vs H Q E=>∃(a:Addr) (ns:List Int) (k:Int),vs=[.ref a,.int k]/\SqL K H a (ns.map V.int)/\0<=k/\k<=100/\∀p H',H p=none->Zf H H'->Zdi H' p->Q (.ref p) H'
noncomputable def sp__law_take:SpT:=λK mg vs H Q E=>∃(p:Addr) (many:Int),vs=[.ref p,.int many]/\0<many/\many<=1000000001/\Zdi H p/\∀d H',0<=d->d<many->Zdi H' p->Exc p H H'->Q (.int d) H'
noncomputable def sp_settle:SpT:=λK mg vs H Q E=>∃(el sp:Addr) (es:List Int) (A B:List Nat) (i:Nat),vs=[.ref el,.ref sp,.int i,.int A.length]/\H el=some (.lst (es.map V.int))/\H sp=some (.lst (Zr (A++B)))/\el≠sp/\i<es.length/\(∀q∈A++B,q<es.length)/\(A++B).length<=1000 /\
 ∀H',(∀b o,b≠el->b≠sp->H b=some o->H' b=some o)->H' el=some (.lst ((ZbL es A B i).map V.int))->H' sp=some (.lst (Zr (A++[i])))->Q .non H'
noncomputable def sp_tree_of:SpT:=λK mg vs H Q E=>∃(r:Addr) (ns:List Int),vs=[.ref r]/\(SqL K H r (ns.map V.int)\/SqT K H r (ns.map V.int))/\ns.length<=1000/\∀(t:Addr) (es:List Int) H',Zp ns es->Zf H H'->H' t=some (.tup (es.map V.int))->Q (.ref t) H'
noncomputable def Zd7 (ds:List Int):Prop:=ds.length<=40/\∀p,p<ds.length->0<=nth ds p/\nth ds p<=p/\(0<nth ds p->∀k:Nat,(p:Int)-nth ds p<k->k<p->0<nth ds k/\nth ds k<=k-(p-nth ds p))
noncomputable def ZS (ds:List Int):Prop:=ds.length<=40/\∀p,p<ds.length->0<=nth ds p/\nth ds p<=p-(ds.take p).sum
noncomputable def Zhw (ds:List Int) (i:Nat):Prop:=∀k,k<i->0<=nth ds k/\(nth ds k).toNat<=ZaG (ds.map Int.toNat) k
noncomputable def ZaQ:SpT:=λK mg vs H Q E=>∃(t:Addr) (xs:List V),vs=[.ref t]/\H t=some (.tup xs)/\xs.length<=1000/\(xs.length<=40->Q .non H)/\(40<xs.length->∀H',Zf H H'->E (.ref (clsAt mg "NoTelling")) none H')
noncomputable def ZbB:SpT:=λK mg vs H Q E=>∃(t:Addr) (ds:List Int),vs=[.ref t]/\H t=some (.tup (ds.map V.int))/\ds.length<=1000/\(ZS ds->∀(u:Addr) H',Zf H H'->H' u=some (.tup ((Za9 (ds.map Int.toNat)).map V.int))->Q (.ref u) H')/\(¬ ZS ds->∀H',Zf H H'->E (.ref (clsAt mg "NoTelling")) none H')
noncomputable def Zd8 (l:List Nat):Int:=(l.count 40:Int)-(l.count 41:Int)
noncomputable def AreBra (l:List Nat):Prop:=(∀i,i<l.length->(l.getD i 0=40\/l.getD i 0=41)/\0<=Zd8 (l.take (i+1)))/\Zd8 l=0/\l.length<=80
noncomputable def OkB (l:List Nat):Prop:=(∀c∈l,c=40\/c=41)/\ZS ((l.foldl Zo ([],0)).1.map λ(d:Nat)=>(d:Int))/\(l.foldl Zo ([],0)).1.sum+(l.foldl Zo ([],0)).2=(l.foldl Zo ([],0)).1.length
noncomputable def ZZ:SpT:=λK mg vs H Q E=>∃l:List Nat,vs=[.str (txt l)]/\(∀c∈l,c<128)/\l.length<=1000/\(OkB l->∀(u:Addr) H',Zf H H'->H' u=some (.tup ((Za9 (l.foldl Zo ([],0)).1).map V.int))->Q (.ref u) H')/\(¬ OkB l->∀H',Zf H H'->E (.ref (clsAt mg "NoTelling")) none H')
noncomputable def Zdz:SpT:=λK mg vs H Q E=>∃(sp:Addr) (S:List Nat) (i:Nat) (d:Int),vs=[.ref sp,.int i,.int d]/\H sp=some (.lst (Zr S))/\S.Pairwise (· < ·)/\S.length<=1000/\i<=1000/\(∀A B,S=A++B->((A=[]/\d=0)\/∃A' q,A=A'++[q]/\(i:Int)-d=(q:Nat))->Q (.int A.length) H)/\(¬ (d=0\/∃q∈S,(i:Int)-d=(q:Nat))->E (.ref (clsAt mg "NoTelling")) none H)
noncomputable def Za4:SpT:=λK mg vs H Q E=>∃(t:Addr) (ds:List Int),vs=[.ref t]/\H t=some (.tup (ds.map V.int))/\ds.length<=1000/\(Zd7 ds->∀(u:Addr) (ns es:List Int) H',Zf H H'->Zp ns es->Zdj ns=ds->H' u=some (.tup (es.map V.int))->Q (.ref u) H')/\(¬ Zd7 ds->∀H',Zf H H'->E (.ref (clsAt mg "NoTelling")) none H')
noncomputable def Zaz:SpT:=λK mg vs H Q E=>∃(t:Addr) (T:List Int),vs=[.ref t]/\H t=some (.tup (T.map V.int))/\T.length<=1000/\((∃ns:List Int,T.length<=40/\Zp ns T/\∀H',Zf H H'->Q (.str (txt (braT (Zu (nth ns) ns.length)))) H')\/(¬ ZdX T/\∀H',Zf H H'->E (.ref (clsAt mg "NoTree")) none H'))
noncomputable def sp_way_up:SpT:=λK mg vs H Q E=>∃(t:Addr) (T:List Int) (p:Nat),vs=[.ref t,.int p]/\H t=some (.tup (T.map V.int))/\T.length<=1000/\p<T.length/\∀(w:Addr) H',H w=none->Zf H H'->H' w=some (.lst ((Zcz T p).map V.int))->Q (.ref w) H'
noncomputable def Zcf:SpT:=λK mg vs H Q E=>∃(t:Addr) (T:List Int),vs=[.ref t]/\H t=some (.tup (T.map V.int))/\T.length<=1000/\(ZdX T->∀H',Zf H H'->Q (.bl true) H')/\(¬ ZdX T->∀H',Zf H H'->Q (.bl false) H')
noncomputable def Zcg:SpT:=λK mg vs H Q E=>∃(t:Addr) (T:List Int),vs=[.ref t]/\H t=some (.tup (T.map V.int))/\T.length<=1000/\(ZdX T->∀H',Zf H H'->Q .non H')/\(¬ ZdX T->∀H',Zf H H'->E (.ref (clsAt mg "NoTree")) none H')
noncomputable def Zch:SpT:=λK mg vs H Q E=>∃(t:Addr) (ns T:List Int),vs=[.ref t]/\H t=some (.tup (T.map V.int))/\Zp ns T/\ns.length<=1000/\∀(l:Addr) H',Zf H H'->Zaf H' l ns.length (λp=>(Zbb (nth ns) p,Zas (nth ns) ns.length p))->Q (.ref l) H'
noncomputable def ZcK:SpT:=λK mg vs H Q E=>∃(t:Addr) (T:List Int),vs=[.ref t]/\H t=some (.tup (T.map V.int))/\T.length<=1000/\((∃ns:List Int,T.length<=40/\Zp ns T/\∀(u:Addr) H',Zf H H'->H' u=some (.tup (Zr (Zu (nth ns) ns.length)))->Q (.ref u) H')\/(¬ ZdX T/\∀H',Zf H H'->E (.ref (clsAt mg "NoTree")) none H'))
theorem ZgY {f:Nat->Int}{ds:List Int}{i:Nat} (h:∀k,k<i->ZaX f k=nth ds k) {q:Nat} (hq:q<i):(∀r,q<r->r<i->f q<=f r)↔∀k:Nat,q<k->k<i->0<nth ds k/\nth ds k<=(k:Int)-q:=by
 constructor
 ·intro g k h1 h2
  rcases Zb7 f k with z|⟨o,z⟩
  ·have:=z q h1;have:=g k h1 h2;omega
  ·rw[<-h k h2];unfold ZaX;rw[Zam z,Yc (by omega)]
   have z1:=z.1
   by_cases e:o<q
   ·have:=z.2.2 q e h1;have:=g k h1 h2;have:=z.2.1;omega
   ·omega
 ·intro g r
  induction r using Nat.strongRecOn with
  |_ r ih =>
   intro h1 h2
   have g1:=g r h1 h2
   rw[<-h r h2]at g1
   rcases Zb7 f r with z|⟨o,z⟩
   ·unfold ZaX at g1;rw[Zca z,Yb (by omega)]at g1;omega
   ·unfold ZaX at g1;rw[Zam z,Yc (by omega)]at g1
    have:=z.1;have:=z.2.1
    by_cases e:o=q
    ·subst e;omega
    ·have:=ih o (by omega) (by omega) (by omega);omega
noncomputable def ADAt (ds:List Int) (p:Nat):Prop:=0<=nth ds p/\nth ds p<=p/\(0<nth ds p->∀k:Nat,(p:Int)-nth ds p<k->k<p->0<nth ds k/\nth ds k<=k-(p-nth ds p))
theorem ad_iff {f:Nat->Int}{ds:List Int}{i:Nat}{S:List Nat} (h:∀k,k<i->ZaX f k=nth ds k) (hS:Zbk f i S):ADAt ds i↔(nth ds i=0\/∃q∈S,(i:Int)-nth ds i=q):=by
 constructor
 ·rintro⟨a,b,c⟩
  by_cases z:nth ds i=0
  ·exact .inl z
  ·refine .inr ⟨((i:Int)-nth ds i).toNat,(hS.2 _).mpr ⟨by omega,(ZgY h (by omega)).mpr λk k1 k2=>?_⟩,by omega⟩
   have:=c (by omega) k (by omega) k2
   exact⟨this.1,by omega⟩
 ·rintro(z|⟨q,hq,z⟩)
  ·exact⟨by omega,by omega,λy=>by omega⟩
  ·obtain⟨q1,q2⟩:=(hS.2 q).mp hq
   refine⟨by omega,by omega,λy k k1 k2=>?_⟩
   have:=(ZgY h q1).mp q2 k (by omega) k2
   exact⟨this.1,by omega⟩
theorem ZfL {f g:Nat->Int}{k:Nat} (h:∀q,q<=k->f q=g q):ZaX f k=ZaX g k:=by
 rcases Zb7 f k with z|⟨o,z⟩
 ·have z2:ZaJ g k:=λq hq=>by have:=z q hq;rw[h k (Yd _),h q (by omega)]at this;exact this
  unfold ZaX;rw[Zca z,Zca z2]
 ·have z2:ZD g k o:=⟨z.1,by rw[<-h k (Yd _),<-h o (by have:=z.1;omega)];exact z.2.1,λr r1 r2=>by rw[<-h k (Yd _),<-h r (by omega)];exact z.2.2 r r1 r2⟩
  unfold ZaX;rw[Zam z,Zam z2]
noncomputable def Zd9 (n i:Nat) (S:List Nat) (es ds:List Int):Prop:=∃f:Nat->Int,Zbk f i S/\S.Pairwise (λq r=>f q+2 ^ (n-i)<=f r)/\(∀p,p<i->Zy f i p (es.getD p 0))/\∀k,k<i->ZaX f k=nth ds k
theorem Zje (n:Nat) (es ds:List Int):Zd9 n 0 [] es ds:=⟨λ_=>0,⟨List.Pairwise.nil,λq=>by simp⟩,List.Pairwise.nil,(λp hp=>by omega),λk hk=>by omega⟩
theorem Zd9.lt {n i:Nat}{S:List Nat}{es ds:List Int} (h:Zd9 n i S es ds):∀q∈S,q<i:=by
 obtain⟨f,hS,_⟩:=h
 exact λq hq=>((hS.2 q).mp hq).1
theorem Zd9.step {n i:Nat}{A B:List Nat}{es ds:List Int} (h:Zd9 n i (A++B) es ds) (hi:i<n) (hl:es.length=n) (he:es.getD i 0=-1) (hd:(A=[]/\nth ds i=0)\/∃A' q,A=A'++[q]/\(i:Int)-nth ds i=(q:Nat)):Zd9 n (i+1) (A++[i]) (ZbL es A B i) ds:=by
 have hlt:=h.lt
 obtain⟨f,hS,hg,hE,hD⟩:=h
 have eD:(2:Int) ^ (n-i)=2*2 ^ (n-(i+1)):=by
  rw[show n-i=n-(i+1)+1 by omega,Int.pow_succ,Int.mul_comm]
 have pD:(0:Int)<2 ^ (n-(i+1)):=Int.pow_pos (by decide)
 rw[eD]at hg
 generalize hDD:(2:Int) ^ (n-(i+1))=D at hg pD
 have hgA:=(List.pairwise_append.mp hg).1
 have hgB:=(List.pairwise_append.mp hg).2.1
 have hgX:=(List.pairwise_append.mp hg).2.2
 obtain⟨v,vA,vB⟩:∃v:Int,(∀q∈A,f q+D<=v)/\∀q∈B,v<f q:=by
  cases B with
  |cons b Br =>
   refine⟨f b-D,λq hq=>?_,λq hq=>?_⟩
   ·have:=hgX q hq b (by simp);omega
   ·rcases Yj.mp hq with rfl|hq
    ·omega
    ·have:=(YZ.mp hgB).1 q hq;omega
  |nil =>
   rcases snoc_cases A with rfl|⟨A',a,rfl⟩
   ·exact⟨0,(λq hq=>by cases hq),λq hq=>by cases hq⟩
   ·refine⟨f a+D,λq hq=>?_,λq hq=>by cases hq⟩
    rcases Ys.mp hq with hq|hq
    ·have:=(List.pairwise_append.mp hgA).2.2 q hq a (by simp);omega
    ·rw[YW.mp hq];omega
 have gi:(λq=>if q=i then v else f q) i=v:=Yc rfl
 have gq:∀q,q<i->(λq=>if q=i then v else f q) q=f q:=λq hq=>Yb (by omega)
 generalize (λq=>if q=i then v else f q)=g at gi gq
 have hag:∀q,q<i->f q=g q:=λq hq=>(gq q hq).symm
 have lA:∀q∈A,q<i:=λq hq=>hlt q (YN _ hq)
 have lB:∀q∈B,q<i:=λq hq=>hlt q (Yo _ hq)
 have sA:∀q∈A,g q<=g i:=λq hq=>by rw[gi,gq q (lA q hq)];have:=vA q hq;omega
 have sB:∀q∈B,g i<g q:=λq hq=>by rw[gi,gq q (lB q hq)];exact vB q hq
 have SS:=Zbl (f:=g) (i:=i) (A:=A) (B:=B) (Zbz hag hS) sA sB
 refine⟨g,SS.1,?_,λp hp=>?_,λk hk=>?_⟩
 ·rw[hDD]
  refine List.pairwise_append.mpr ⟨?_,List.pairwise_singleton _ _,λq hq r hr=>?_⟩
  ·refine hgA.imp_of_mem λ{q r} hq hr z=>?_
   rw[gq q (lA q hq),gq r (lA r hr)];omega
  ·rw[YW.mp hr,gi,gq q (lA q hq)];exact vA q hq
 ·have hbi:∀b,B.head?=some b->b≠i:=λb hb=>by
   have:=lB b (List.mem_of_head? hb);omega
  rw[Zby _ _ _ _ _ (by omega) hbi]
  by_cases z:p=i
  ·subst z
   rw[Yc rfl,he];exact SS.2.1
  ·rw[Yb z]
   exact SS.2.2 p _ (by omega) (ZbA hag (by omega) (hE p (by omega)))
 ·by_cases z:k=i
  ·subst z
   rcases Zkv (Zbz hag hS) sA sB with⟨e1,e2⟩|⟨A1,q1,e1,_,e2⟩
   ·rcases hd with⟨_,d2⟩|⟨A2,q2,d1,d2⟩
    ·rw[e2,d2]
    ·rw[d1]at e1;simp at e1
   ·rcases hd with⟨d1,d2⟩|⟨A2,q2,d1,d2⟩
    ·rw[d1]at e1;simp at e1
    ·rw[d1]at e1
     have e3:=(List.append_inj' e1 rfl).2
     have e4:q2=q1:=by simpa using e3
     subst e4
     omega
  ·rw[<-ZfL (f:=f) (g:=g) (k:=k) (λq hq=>hag q (by omega))]
   exact hD k (by omega)
theorem Zd9.tree {n:Nat}{S:List Nat}{es ds:List Int} (h:Zd9 n n S es ds) (hl:es.length=n) (hd:ds.length=n):∃ns,Zp ns es/\Zdj ns=ds:=by
 obtain⟨f,_,_,hE,hD⟩:=h
 have ln:((List.range n).map f).length=n:=by simp
 refine⟨(List.range n).map f,⟨by rw[ln];exact hl,λp hp=>?_⟩,?_⟩
 ·rw[ln]at hp⊢
  exact ZbA (f:=f) (λq hq=>(Zad hq).symm) hp (hE p hp)
 ·refine List.ext_getElem (by rw[ZgL,ln,hd]) λk k1 k2=>?_
  have e1:(Zdj ((List.range n).map f))[k]=ZaX (nth ((List.range n).map f)) k:=by simp[Zdj]
  have hk:k<n:=by omega
  rw[e1,<-ZfL (f:=f) (λq hq=>(Zad (show q<n by omega)).symm),hD k hk]
  simp[nth,Yg,k2]
theorem Zez:∀(t a:List Nat) (c:Nat),((t.foldl Zo (a,c)).1=a/\c<=(t.foldl Zo (a,c)).2)\/∃d r,c<=d/\(t.foldl Zo (a,c)).1=a++d::r
 |[],a,c=>.inl ⟨rfl,Yd _⟩
 |x::t,a,c=>by
  rw[List.foldl_cons]
  unfold Zo
  by_cases z:x=40
  ·rw[Yc z]
   rcases Zez t (a++[c]) 0 with⟨h,_⟩|⟨d,r,_,h⟩
   ·exact .inr ⟨c,[],Yd _,h⟩
   ·exact .inr ⟨c,d::r,Yd _,h.trans (by simp)⟩
  ·rw[Yb z]
   rcases Zez t a (c+1)with⟨h,h2⟩|⟨d,r,h2,h⟩
   ·exact .inl ⟨h,Yn (Y6 c) h2⟩
   ·exact .inr ⟨d,r,by omega,h⟩
theorem ZfM (a b:List Nat):Za2 (a++b)=Za2 a++Za2 b:=by simp[Za2]
theorem ZeA:∀(t a:List Nat) (c:Nat),(∀x∈t,x=40\/x=41)->Za2 (t.foldl Zo (a,c)).1++List.replicate (t.foldl Zo (a,c)).2 41=Za2 a++List.replicate c 41++t
 |[],a,c,_=>by simp
 |x::t,a,c,h=>by
  rw[List.foldl_cons]
  rcases h x (by simp)with rfl|rfl
  ·have:=ZeA t (a++[c]) 0 λy hy=>h y (by simp[hy])
   rw[show Zo (a,c) 40=(a++[c],0)from rfl,this,ZfM]
   simp[Za2]
  ·have:=ZeA t a (c+1) λy hy=>h y (by simp[hy])
   rw[show Zo (a,c) 41=(a,c+1)from rfl,this,List.replicate_succ']
   simp
theorem Zio:∀a:List Nat,(Za2 a).count 40=a.length/\(Za2 a).count 41=a.sum
 |[]=>by simp[Za2]
 |d::a=>by
  obtain⟨h1,h2⟩:=Zio a
  have e:Za2 (d::a)=List.replicate d 41++[40]++Za2 a:=by simp[Za2]
  rw[e]
  simp only[List.count_append,List.count_replicate,h1,h2,Yz,List.sum_cons]
  constructor<;>simp<;>omega
theorem ZjX (a:List Nat) (c:Nat):Zd8 (Za2 a++List.replicate c 41)=(a.length:Int)-a.sum-c:=by
 obtain⟨h1,h2⟩:=Zio a
 unfold Zd8
 simp only[List.count_append,List.count_replicate,h1,h2]
 simp
 omega
theorem Zea {l:List Nat} (h:∀x∈l,x=40\/x=41):l=Za2 (l.foldl Zo ([],0)).1++List.replicate (l.foldl Zo ([],0)).2 41/\Zd8 l=((l.foldl Zo ([],0)).1.length:Int)-(l.foldl Zo ([],0)).1.sum-(l.foldl Zo ([],0)).2:=by
 have e:=ZeA l [] 0 h
 have e':l=Za2 (l.foldl Zo ([],0)).1++List.replicate (l.foldl Zo ([],0)).2 41:=by rw[e];simp[Za2]
 refine⟨e',?_⟩
 conv=>lhs;rw[e']
 exact ZjX _ _
theorem Zeb (a:List Nat):ZS (a.map λ(d:Nat)=>(d:Int))↔a.length<=40/\∀p,p<a.length->(a.take (p+1)).sum<=p:=by
 unfold ZS
 rw[Yh]
 refine and_congr_right λ_=>forall_congr' λp=>imp_congr_right λhp=>?_
 have e1:nth (a.map λ(d:Nat)=>(d:Int)) p=(a.getD p 0:Nat):=by simp[nth,Yg,hp]
 have e2:(a.take (p+1)).sum=(a.take p).sum+a.getD p 0:=by
  rw[YO,Yf hp,List.sum_append]
  simp[Yg,hp]
 rw[e1,<-List.map_take,ZaY,e2]
 omega
theorem Zm8 (l:List Nat):AreBra l↔OkB l:=by
 constructor
 ·rintro⟨h1,h2,h3⟩
  have hall:∀x∈l,x=40\/x=41:=λx hx=>by
   obtain⟨i,hi,e⟩:=Y3 hx
   have:=(h1 i hi).1
   rw[show l.getD i 0=x by simp[Yg,hi,e]]at this
   exact this
  obtain⟨e,eb⟩:=Zea hall
  refine⟨hall,(Zeb _).mpr ?_,by omega⟩
  have el:=congrArg List.length e
  rw[Yu,List.length_replicate,Zd5]at el
  generalize (l.foldl Zo ([],0)).1=a at e eb el
  generalize (l.foldl Zo ([],0)).2=c at e eb el
  refine⟨by omega,λp hp=>?_⟩
  have es:(a.take (p+1)).sum=(a.take p).sum+a.getD p 0:=by
   rw[YO,Yf hp,List.sum_append]
   simp[Yg,hp]
  have ea:a=a.take p++[a.getD p 0]++a.drop (p+1):=by
   have:[a.getD p 0]=a[p]?.toList:=by simp[Yg,hp]
   rw[this,<-YO,Y7]
  have hpl:(a.take p).length=p:=by simp;omega
  have hb:=ZjX (a.take p) (a.getD p 0)
  rw[hpl]at hb
  have hpre:∃r,l=(Za2 (a.take p)++List.replicate (a.getD p 0) 41)++40::r:=by
   refine⟨Za2 (a.drop (p+1))++List.replicate c 41,?_⟩
   rw[e]
   conv=>lhs;rw[ea]
   rw[ZfM,ZfM]
   simp[Za2]
  obtain⟨r,hr⟩:=hpre
  generalize hj:Za2 (a.take p)++List.replicate (a.getD p 0) 41=m at hb hr
  cases hm:m.length with
  |zero =>
   have:m=[]:=List.eq_nil_of_length_eq_zero hm
   rw[this,show Zd8 []=0 from rfl]at hb
   omega
  |succ j =>
   have h4:=(h1 j (by rw[hr];simp;omega)).2
   have h5:l.take (j+1)=m:=by rw[<-hm,hr,List.take_left]
   rw[h5]at h4
   omega
 ·rintro⟨h1,h2,h3⟩
  obtain⟨h4,h5⟩:=(Zeb _).mp h2
  obtain⟨e,eb⟩:=Zea h1
  have el:=congrArg List.length e
  rw[Yu,List.length_replicate,Zd5]at el
  refine⟨λi hi=>⟨h1 _ (by rw[show l.getD i 0=l[i] by simp[Yg,hi]];exact YV hi),?_⟩,by omega,by omega⟩
  have hp1:∀x∈l.take (i+1),x=40\/x=41:=λx hx=>h1 x (List.mem_of_mem_take hx)
  rw[(Zea hp1).2]
  have hs:l.foldl Zo ([],0)=(l.drop (i+1)).foldl Zo ((l.take (i+1)).foldl Zo ([],0)):=by
   rw[<-List.foldl_append,Y7]
  have hm:=Zez (l.drop (i+1)) ((l.take (i+1)).foldl Zo ([],0)).1 ((l.take (i+1)).foldl Zo ([],0)).2
  rw[show(((l.take (i+1)).foldl Zo ([],0)).1,((l.take (i+1)).foldl Zo ([],0)).2)=(l.take (i+1)).foldl Zo ([],0)from rfl,<-hs]at hm
  generalize l.foldl Zo ([],0)=ac at hm h3 h4 h5
  generalize (l.take (i+1)).foldl Zo ([],0)=bd at hm
  rcases hm with⟨m1,m2⟩|⟨d,r,m1,m2⟩
  ·rw[<-m1];omega
  ·have:=h5 bd.1.length (by rw[m2];simp)
   rw[m2,List.take_length_add_append,List.sum_append]at this
   simp at this
   omega
theorem ZlT {l:List Nat} (h:OkB l):braT (l.foldl Zo ([],0)).1=l:=by
 obtain⟨h1,h2,h3⟩:=h
 have e:=(Zea h1).1
 conv=>rhs;rw[e]
 unfold braT
 rw[show(l.foldl Zo ([],0)).1.length-(l.foldl Zo ([],0)).1.sum=(l.foldl Zo ([],0)).2 by omega]
noncomputable def Zer (b m c:Nat):List Int:=(List.range m).map λj=>((c / b ^ j % b:Nat):Int)
noncomputable def ZQ:List Int:=[1,1,2,5,14,42]
noncomputable def Said (H:Hp) (way:Int) (v:V) (k:List Int):Prop:=((way=0\/way=1)/\∃t:Addr,v=.ref t/\H t=some (.tup (k.map V.int))/\k.length<=10)\/(way=2/\∃l:List Nat,v=.str (txt l)/\k=l.map (λ(c:Nat)=>(c:Int))/\(∀c∈l,c<128)/\l.length<=10)
noncomputable def Fine (way:Int) (k:List Int):Prop:=(way=0->ZS k)/\(way=1->Zd7 k)/\(way=2->OkB (k.map Int.toNat))
noncomputable def Tells (way:Int) (k T:List Int):Prop:=∃ns,Zp ns T/\ns.length<=40/\(way=0->Zr (Zu (nth ns) ns.length)=k.map V.int)/\(way=1->Zdj ns=k)/\(way=2->(braT (Zu (nth ns) ns.length)).map (λ(c:Nat)=>(c:Int))=k)
noncomputable def Zbn:SpT:=λK mg vs H Q E=>∃(c b m:Nat),vs=[.int c,.int b,.int m]/\0<b/\b<=10/\m<=10/\c<=1000000/\∀(u:Addr) H',Zf H H'->H' u=some (.tup ((Zer b m c).map V.int))->Q (.ref u) H'
noncomputable def ZbM:SpT:=λK mg vs H Q E=>∃(b m:Nat),vs=[.int b,.int m]/\b<=10/\m<=10/\Q (.int ((b ^ m:Nat):Int)) H
noncomputable def Zci:SpT:=λK mg vs H Q E=>∃(m:Nat),vs=[.int m]/\m<=5/\∀H',Zf H H'->Q (.int (nth ZQ m)) H'
noncomputable def ZcL:SpT:=λK mg vs H Q E=>∃(way:Int) (v:V) (k:List Int),vs=[.int way,v]/\Said H way v k/\(Fine way k->∀(u:Addr) (T:List Int) H',Zf H H'->Tells way k T->H' u=some (.tup (T.map V.int))->Q (.ref u) H')/\(¬ Fine way k->∀H',Zf H H'->Q .non H')
noncomputable def Za5:SpT:=λK mg vs H Q E=>∃(m:Nat),vs=[.int m]/\m<=5/\∀H',Zf H H'->Q (.bl true) H'
noncomputable def Zcj:SpT:=λK mg vs H Q E=>∃(p:Addr),vs=[.ref p]/\Zdi H p/\∀(l:List Nat) H',OkB l->l.length<=16->Zdi H' p->Exc p H H'->Q (.str (txt l)) H'
section
variable {P:Program}{w:World}{K:PySem.W.Frag}{mg:Str->Option Value}{base:Heap}
theorem sc_settle:FnScope ["elders","spine","place","keep"] ["elders","spine","place","keep"] (defScope s_settle):=⟨rfl,rfl,rfl,by decide +kernel,rfl,by decide +kernel,by decide +kernel⟩
theorem sc_tree_of:FnScope ["row","elders","spine","place","keep"] ["row"] (defScope s_tree_of):=⟨rfl,rfl,rfl,by decide +kernel,rfl,by decide +kernel,by decide +kernel⟩
theorem sc_way_up:FnScope ["tree","place","way","at"] ["tree","place"] (defScope s_way_up):=⟨rfl,rfl,rfl,by decide +kernel,rfl,by decide +kernel,by decide +kernel⟩
theorem ZfN:FnScope ["tree","depths"] ["tree"] (defScope Zbg):=⟨rfl,rfl,rfl,by decide +kernel,rfl,by decide +kernel,by decide +kernel⟩
theorem Zhx:FnScope ["tree"] ["tree"] (defScope Zao):=⟨rfl,rfl,rfl,by decide +kernel,rfl,by decide +kernel,by decide +kernel⟩
theorem Z5:FnScope ["tree","fences","place","way","ahead","behind"] ["tree"] (defScope Zap):=⟨rfl,rfl,rfl,by decide +kernel,rfl,by decide +kernel,by decide +kernel⟩
theorem ZbC:FnScope ["tree","drops","ahead","behind"] ["tree"] (defScope ZaL):=⟨rfl,rfl,rfl,by decide +kernel,rfl,by decide +kernel,by decide +kernel⟩
theorem Zbo:FnScope ["tree","drops","still"] ["tree"] (defScope ZU):=⟨rfl,rfl,rfl,by decide +kernel,rfl,by decide +kernel,by decide +kernel⟩
theorem Zgm:FnScope ["told"] ["told"] (defScope Z3):=⟨rfl,rfl,rfl,by decide +kernel,rfl,by decide +kernel,by decide +kernel⟩
theorem Zjf:FnScope ["spine","place","distance"] ["spine","place","distance"] (defScope Zbh):=⟨rfl,rfl,rfl,by decide +kernel,rfl,by decide +kernel,by decide +kernel⟩
theorem ZT:FnScope ["told","elders","spine","place","distance"] ["told"] (defScope ZO):=⟨rfl,rfl,rfl,by decide +kernel,rfl,by decide +kernel,by decide +kernel⟩
theorem ZaZ:FnScope ["told","elders","spine","place","drop"] ["told"] (defScope ZaM):=⟨rfl,rfl,rfl,by decide +kernel,rfl,by decide +kernel,by decide +kernel⟩
theorem ZG:FnScope ["text","drops","closed","sign","tree"] ["text"] (defScope ZV):=⟨rfl,rfl,rfl,by decide +kernel,rfl,by decide +kernel,by decide +kernel⟩
theorem ZR:FnScope ["script","k","cell","great","one","turn"] ["script","k"] (defScope ZaN):=⟨rfl,rfl,rfl,by decide +kernel,rfl,by decide +kernel,by decide +kernel⟩
theorem sc__law_take:FnScope ["pot","many","digit"] ["pot","many"] (defScope s__law_take):=⟨rfl,rfl,rfl,by decide +kernel,rfl,by decide +kernel,by decide +kernel⟩
theorem ZaA:FnScope ["code","base","many","digits","place"] ["code","base","many"] (defScope ZW):=⟨rfl,rfl,rfl,by decide +kernel,rfl,by decide +kernel,by decide +kernel⟩
theorem ZaR:FnScope ["base","many","power","place"] ["base","many"] (defScope Z4):=⟨rfl,rfl,rfl,by decide +kernel,rfl,by decide +kernel,by decide +kernel⟩
theorem Zck:FnScope ["many","found","k"] ["many"] (defScope Zaq):=⟨rfl,rfl,rfl,by decide +kernel,rfl,by decide +kernel,by decide +kernel⟩
theorem ZbD:FnScope ["way","told","found"] ["way","told"] (defScope ZaO):=⟨rfl,rfl,rfl,by decide +kernel,rfl,by decide +kernel,by decide +kernel⟩
theorem Zz:FnScope ["many","codes","texts","due","way","trees","tuples"] ["many"] (defScope ZP):=⟨rfl,rfl,rfl,by decide +kernel,rfl,by decide +kernel,by decide +kernel⟩
theorem Z6:FnScope ["pot","many","text","opened"] ["pot"] (defScope Zar):=⟨rfl,rfl,rfl,by decide +kernel,rfl,by decide +kernel,by decide +kernel⟩
theorem sc_law:FnScope ["script","many","k","pot","one","other"] ["script"] (defScope s_law):=⟨rfl,rfl,rfl,by decide +kernel,rfl,by decide +kernel,by decide +kernel⟩
theorem Ziq {f:Addr}{fd:FuncData} (F:Fun K "_law_pot" "_law_pot" ZaN f fd) (T:Txt K mg):FnOk P w K mg base (CXE P w) 1 f fd ["script","k"] (ZcJ K mg):=by
 refine F.okX ZR (λvs H Q E h=>?_) (λcdv A outer s H vs Q E hr h=>?_)
 ·obtain⟨a,ns,k,rfl,_⟩:=h;rfl
 obtain⟨a,ns,k,rfl,hS,h0,h1,k1⟩:=h
 refine⟨_,(Zc (Zl (i:=2) ZR.nd rfl (Or.inl rfl) Zg)
   (Zc (Zaj (Zs ZeQ (pv 1) (Zi (Zk (K:=K) rfl) rfl T.b_len Yq (Za (pv 0) Zb)) (Zw _)) (Ze (Zl (i:=2) ZR.nd rfl (Or.inl rfl) (Za8 Zat (pv 0) (pv 1) (λ_ _=>rfl)))) ZK)
   (Zc (Zaj (Zs op_ge (pv 2) (Zm Zem Zg Zg) (Zw _)) (Ze (ZA (Zag (Za (Zm Zdr (Zm ZbK (pv 2) (Zm Zem Zg Zg)) (Zm Z1 (Zm Z1 (Zm Z1 (Zm Zem Zg Zg) (Zm Zem Zg Zg)) (Zm Zem Zg Zg)) (Zm Zem Zg Zg))) Zb)))) ZK)
   (Zc (Zl (i:=3) ZR.nd rfl (Or.inl rfl) Zg)
   (Zc (Zl (i:=4) ZR.nd rfl (Or.inl rfl) (Zm Zb4 (Zm Zb4 (Zm Zdr (pv 2) Zg) (Zm Z1 Zg (pv 1))) Zg))
   (Zc (Za1 (Za0 PassesOwn.never rfl (ZF rfl T.b_range (Za Zg Zb)) (Zq (i:=5) ZR.nd rfl (Or.inl rfl)) (Zc (Zl (i:=4) ZR.nd rfl (Or.inl rfl) (Zm Zdr (Zm Zb4 (Zm Zb4 (Zm Z1 (pv 4) Zg) (Zm Z1 Zg (pv 5))) Zg) Zg))
   (Ze (Zl (i:=3) ZR.nd rfl (Or.inl rfl) (Zm Zb4 (Zm Z1 (pv 3) Zg) (Zm Zdr (Zm Zhb (Zm Zdr (Zm Z1 (pv 4) (pv 4)) Zg) Zg) Zg)))))))
   (Ze (ZA (Zag (Za (pv 3) Zb)))))))))),?_⟩
 simp only[tIfS,tNot,tTest,tChain,rI0,rI,rU,tVar,tC,tB,tCall,tCons,tNil,tAsg,tSeq,tRet,tNext,tOp,tUn,tAnd,tOr,tDrop,gName,gSub,tAug,tCB,tRaise,tLst,tTup,L2.start,tYes,gTup,gCons,gNil,iniC,Option.join_some,Option.join_none,rEq,rNe,ZjD,ZjE,ZjF,ZjG,ZjH,ZjI,tBM,Bool.true_eq_false,YC,List.map_nil,List.cons_append,List.nil_append,Yz,List.length_nil,List.replicate,List.append_nil,List.set_cons_zero,List.set_cons_succ,List.getElem?_cons_zero,List.getElem?_cons_succ,Option.some.injEq,V.int.injEq,V.bl.injEq,V.ref.injEq,List.cons.injEq,and_true,true_and,exists_eq_left,exists_eq_left',exists_and_left,exists_eq,decide_eq_true_eq,Bool.not_eq_true',decide_eq_false_iff_not,cxK,and_assoc,Bool.false_eq_true,↓reduceIte,ZjC,ZgD,ZhV,iRng1,iList,iTup,rIxL,rIxT,rSetL,rIsi,rSum,tDelT,rIndex,rLen,rTof,rIxS,rEqD,rIn,iEnumT,tMaxD,tMinD,rAll,rIxQ,ipI,rAppend,rRep,ZjK,Zly,Zhv,ZlR,tAugS,rMulS,rJoin,iStr,rSumT,V.str.injEq,rCountS,rLenS,rLenSet,rIxS,cp18,cp60,qm1,qm2,qm3,qm4]
 have fin:∀g:Int,0<=g->∀p,H p=none->Q (V.ref p) (upd H p (.lst [V.int g])):=λg hg p hp=>k1 p _ hp ((Zf.refl H).upd hp) ⟨_,Zd,hg⟩
 refine⟨_,.inl hS,Zbi (λhk=>?_) (λhk=>?_)⟩
 case' refine_1 =>
  obtain⟨j,hj0⟩:=Ja h0
  have hj:j<(ns.map V.int).length:=by omega
  refine⟨_,hS,_,ZiU hj0 hj,ns[j]'(by simpa using hj),by simp,Zbi (λ_=>⟨ns[j]'(by simpa using hj),by simp,by decide,fin _ (Int.emod_nonneg _ (by decide +kernel))⟩) (λ_=>⟨ns[j]'(by simpa using hj),by simp,by decide,ZdT (by decide) (by decide),by decide,by decide,?_⟩)⟩
 case' refine_2 =>
  refine Zbi (λz=>absurd z (by decide)) (λ_=>⟨by decide,ZdT (by decide) (by decide),by decide,by decide,?_⟩)
 all_goals
  refine Zak (λi σ H'=>∃v2 g o v5,σ=[some (.ref a),some (.int k),v2,some (.int g),some (.int o),v5]/\0<=g/\H'=H) ⟨_,0,_,none,rfl,Int.le_refl _,rfl⟩ ?_ ?_
  ·rintro i σ H' hi ⟨v2,g,o,v5,rfl,hg,rfl⟩
   walk_at "rd"
   have b1:=Int.emod_nonneg (o*48271+7919*(0+(i:Int))+104729) (b:=2147483647) (by decide)
   have b2:=Int.emod_lt_of_pos (o*48271+7919*(0+(i:Int))+104729) (b:=2147483647) (by decide)
   refine⟨mul_r (by decide) (by decide),ZdT (by decide) (by decide),by decide,mul_r (by decide) (by decide),ZdT (by omega) (by omega),by decide,⟨by decide,by decide⟩,by decide,?_⟩
   have b3:=Int.emod_nonneg ((o*48271+7919*(0+(i:Int))+104729) % 2147483647*((o*48271+7919*(0+(i:Int))+104729) % 2147483647) % 2147483629 / 128) (b:=1048576) (by decide)
   have b4:=Int.mul_nonneg hg (show(0:Int)<=1048576 by decide)
   omega
  ·rintro σ H' ⟨v2,g,o,v5,rfl,hg,rfl⟩
   walk_at "rd"
   exact⟨by decide,fin g hg⟩
theorem ok__law_take {f:Addr}{fd:FuncData} (F:Fun K "_law_take" "_law_take" s__law_take f fd) (T:Txt K mg):FnOk P w K mg base (CXE P w) 1 f fd ["pot","many"] (sp__law_take K mg):=by
 refine F.okX sc__law_take (λvs H Q E h=>?_) (λcdv A outer s H vs Q E hr h=>?_)
 ·obtain⟨p,many,rfl,_⟩:=h;rfl
 obtain⟨p,many,rfl,h0,h1,⟨x,hp,hx⟩,k1⟩:=h
 refine⟨_,(Zc (Zl (i:=2) sc__law_take.nd rfl (Or.inl rfl) (Zm Zdr (Za8 Zat (pv 0) Zg (λ_ _=>rfl)) (pv 1)))
   (Zc (ZiN (Zm Zhb (Za8 Zat (pv 0) Zg (λ_ _=>rfl)) (pv 1)) (ZiM (pv 0) Zg set_list (λ_=>rfl)))
   (Ze (ZA (pv 2))))),?_⟩
 walk_at "rd"
 refine⟨_,SqL.of hp,_,rfl,_,rfl,h0,?_⟩
 refine⟨_,SqL.of hp,_,rfl,_,rfl,⟨h0,by omega⟩,_,hp,_,rfl,?_⟩
 exact k1 _ _ (Int.emod_nonneg _ (by omega)) (Int.emod_lt_of_pos _ h0) ⟨_,Zd,Int.ediv_nonneg hx (by omega)⟩ Exc.upd
theorem ok_settle {f:Addr}{fd:FuncData} (F:Fun K "settle" "settle" s_settle f fd) (T:Txt K mg):FnOk P w K mg base (CXE P w) 1 f fd ["elders","spine","place","keep"] (sp_settle K mg):=by
 refine F.okX sc_settle (λvs H Q E h=>?_) (λcdv A outer s H vs Q E hr h=>?_)
 ·obtain⟨el,sp,es,A,B,i,rfl,_⟩:=h;rfl
 obtain⟨el,sp,es,A',B,i,rfl,hel,hsp,hne,hi,hq,hlen,k1⟩:=h
 refine⟨_,(Zc (Zaj (Zs ZeQ (pv 3) (Zi (Zk (K:=K) rfl) rfl T.b_len Yq (Za (pv 1) Zb)) (Zw _)) (Ze (ZiN (pv 2) (ZiM (pv 0) (Za8 Zat (pv 1) (pv 3) (λ_ _=>rfl)) set_list (λ_=>rfl)))) ZK)
   (Zc (Zaj (Zs Zgx (pv 3) Zg (Zw _)) (Ze (ZiN (Za8 Zat (pv 1) (Zm ZbK (pv 3) Zg) (λ_ _=>rfl)) (ZiM (pv 0) (pv 2) set_list (λ_=>rfl)))) ZK)
   (Zc (ZiW (pv 1) (pv 3))
   (Ze (Zae (Zcy PySem.F.plainAttrs_list PySem.F.slot_list_append PySem.F.type_list_append Zbf (pv 1) (Za (pv 2) Zb))))))),?_⟩
 walk_at "rd"
 have hb1:(Zr A').length<sizeLine:=by
  rw[ZI]
  rw[Yu]at hlen
  exact YE (show _<=1000 by omega) (by decide)
 have etk:List.take A'.length (Zr (A'++B))=Zr A':=by
  rw[Zdb]
  have:A'.length=(Zr A').length:=(ZI A').symm
  rw[this,List.take_left]
 have hle:A'.length<=(Zr (A'++B)).length:=by rw[ZI,Yu];omega
 have esn:Zr A'++[V.int (i:Nat)]=Zr (A'++[i]):=by rw[Zdb];rfl
 refine⟨_,.inl (SqL.of hsp),?_⟩
 rw[ZI,Yu]
 -- the end: behind the two stores
 have fin:∀(es1:List Int) (Hx:Hp),(∀b o,b≠el->b≠sp->H b=some o->Hx b=some o)->Hx el=some (.lst (es1.map V.int))->Hx sp=some (.lst (Zr (A'++B)))->es1=ZbL es A' B i ->
   ∃(xs:List V) (k:Nat),(A'.length:Int)=(k:Int)/\Hx sp=some (HO.lst xs)/\k<=xs.length/\tyV K "list" (V.ref sp) (upd Hx sp (HO.lst (List.take k xs)))/\∃x,upd Hx sp (HO.lst (List.take k xs)) sp=some (HO.lst x)/\x.length<sizeLine/\Q V.non (upd (upd Hx sp (HO.lst (List.take k xs))) sp (HO.lst (x++[V.int (i:Nat)]))):=by
  intro es1 Hx h1 h2 h3 h4
  refine⟨_,A'.length,rfl,h3,hle,Zbj Zd,_,Zd,by rw[etk];exact hb1,k1 _ (λb o n1 n2 z=>by rw[Zh n2,Zh n2];exact h1 b o n1 n2 z) (by rw[Zh hne,Zh hne,h2,h4]) (by rw[Zd,etk,esn])⟩
 -- elders[place]=spine[keep-1]
 have mid:∀(es1:List Int) (Hx:Hp),(∀b o,b≠el->b≠sp->H b=some o->Hx b=some o)->Hx el=some (.lst (es1.map V.int))->es1.length=es.length->Hx sp=some (.lst (Zr (A'++B)))->∀q,A'.getLast?=some q->es1.set i (q:Int)=ZbL es A' B i ->
   ∃x,SqL K Hx sp x/\∃x_1,atI x ((A'.length:Int)-1)=some x_1/\∃x,Hx el=some (HO.lst x)/\∃x_2,ixN x.length (i:Int)=some x_2/\∃(xs:List V) (k:Nat),(A'.length:Int)=(k:Int)/\upd Hx el (HO.lst (x.set x_2 x_1)) sp=some (HO.lst xs)/\k<=xs.length/\tyV K "list" (V.ref sp) (upd (upd Hx el (HO.lst (x.set x_2 x_1))) sp (HO.lst (List.take k xs))) /\
    ∃x_3,upd (upd Hx el (HO.lst (x.set x_2 x_1))) sp (HO.lst (List.take k xs)) sp=some (HO.lst x_3)/\x_3.length<sizeLine/\Q V.non (upd (upd (upd Hx el (HO.lst (x.set x_2 x_1))) sp (HO.lst (List.take k xs))) sp (HO.lst (x_3++[V.int (i:Nat)]))):=by
  intro es1 Hx h1 h2 hl1 h3 q hq h4
  have hpos:0<A'.length:=by
   cases A' with
   |nil=>cases hq
   |cons _ _=>simp
  have hat:(A'++B)[A'.length-1]?=some q:=by
   rw[Y5 (by omega)]
   rw[List.getLast?_eq_getElem?]at hq;exact hq
  have ei:((A'.length:Int)-1)=((A'.length-1:Nat):Int):=by omega
  refine⟨_,SqL.of h3,_,by rw[ei];exact Zft hat,_,h2,i,by rw[Yh,hl1];exact Zho hi,?_⟩
  have em:(es1.map V.int).set i (V.int (q:Nat))=(es1.set i (q:Int)).map V.int:=by rw[List.map_set]
  rw[em]
  exact fin _ _ (λb o n1 n2 z=>by rw[Zh n1];exact h1 b o n1 n2 z) Zd (by rw[Zh hne.symm];exact h3) h4
 cases B with
 |nil =>
  rw[Yb (by simp)]
  cases hq:A'.getLast? with
  |none =>
   have:A'=[]:=List.getLast?_eq_none_iff.mp hq
   rw[Yb (by rw[this];simp)]
   exact fin es H (λb o _ _ z=>z) hel hsp (by unfold ZbL;rw[hq];rfl)
  |some q =>
   have:A'≠[]:=λz=>by rw[z]at hq;cases hq
   rw[Yc (by have:=List.length_pos_iff.mpr this;omega)]
   exact mid es H (λb o _ _ z=>z) hel rfl hsp q hq (by unfold ZbL;rw[hq];rfl)
 |cons b Br =>
  rw[Yc (by simp;omega)]
  have hat:(A'++b::Br)[A'.length]?=some b:=by rw[Y1 (Yd _)];simp
  have hbn:b<es.length:=hq b (by simp)
  refine⟨_,SqL.of hsp,_,Zft hat,_,_,rfl,hel,b,by rw[Yh];exact Zho hbn,?_⟩
  have em:(es.map V.int).set b (V.int (i:Nat))=(es.set b (i:Int)).map V.int:=by rw[List.map_set]
  rw[em]
  cases hq2:A'.getLast? with
  |none =>
   have:A'=[]:=List.getLast?_eq_none_iff.mp hq2
   rw[Yb (by rw[this];simp)]
   exact fin (es.set b i) _ (λc o n1 n2 z=>by rw[Zh n1];exact z) Zd (by rw[Zh hne.symm];exact hsp) (by unfold ZbL;rw[hq2];rfl)
  |some q =>
   have:A'≠[]:=λz=>by rw[z]at hq2;cases hq2
   rw[Yc (by have:=List.length_pos_iff.mpr this;omega)]
   exact mid (es.set b i) _ (λc o n1 n2 z=>by rw[Zh n1];exact z) Zd (by simp) (by rw[Zh hne.symm];exact hsp) q hq2 (by unfold ZbL;rw[hq2];rfl)
theorem ok_tree_of {f:Addr}{fd:FuncData} (F:Fun K "tree_of" "tree_of" s_tree_of f fd) (ZaC:Callee P w K mg base "settle" 1 ["elders","spine","place","keep"] (sp_settle K mg)) (T:Txt K mg):FnOk P w K mg base (CXE P w) 2 f fd ["row"] (sp_tree_of K mg):=by
 refine F.okX sc_tree_of (λvs H Q E h=>?_) (λcdv A outer s H vs Q E hr h=>?_)
 ·obtain⟨r,ns,rfl,_⟩:=h;rfl
 obtain⟨r,ns,rfl,hS,hn,k1⟩:=h
 refine⟨_,(Zc (Zl (i:=1) sc_tree_of.nd rfl (Or.inl rfl) (Zm Zhh (Zag (Za (Zju Zhc Zg) Zb)) (Zi (Zk (K:=K) rfl) rfl T.b_len Yq (Za (pv 0) Zb))))
   (Zc (Zl (i:=2) sc_tree_of.nd rfl (Or.inl rfl) (Zag Zb))
   (Zc (Za1 (Za0 PassesOwn.never rfl (ZF rfl T.b_range (Za (Zi (Zk (K:=K) rfl) rfl T.b_len Yq (Za (pv 0) Zb)) Zb)) (Zq (i:=3) sc_tree_of.nd rfl (Or.inl rfl)) (Zc (Zl (i:=4) sc_tree_of.nd rfl (Or.inl rfl) (Zi (Zk (K:=K) rfl) rfl T.b_len Yq (Za (pv 2) Zb)))
   (Zc (Za1 (Zfo PassesOwn.never (PW.pt (ZiK (Zs Zgx (pv 4) Zg (Zw _)) (Zg9 (Zs Zgx (Za8 (ix_q (K:=K) rfl) (pv 0) (Za8 Zat (pv 2) (Zm ZbK (pv 4) Zg) (λ_ _=>rfl)) (λ_ _=>rfl)) (Za8 (ix_q (K:=K) rfl) (pv 0) (pv 3) (λ_ _=>rfl)) (Zw _))))) (Ze (Zle (i:=4) sc_tree_of.nd rfl (Or.inl rfl) Zg ip_sub))))
   (Ze (Zae (Zj ZaC (hr.mono (by decide)) rfl ZN (Za (pv 1) (Za (pv 2) (Za (pv 3) (Za (pv 4) Zb)))))))))))
   (Ze (ZA (Zal (ZaI (K:=K) rfl) rfl T.b_tuple Zav (Za (pv 1) Zb))))))),?_⟩
 walk_at "rd"
 have eL:(ns.map V.int).length=ns.length:=Yh ..
 refine⟨by decide,λp hp=>⟨_,((Zf.refl H).upd hp).q hS,_,Zd,by omega,by rw[eL];omega,?_,λel hel=>⟨Yp _,λsp hsp=>?_⟩⟩⟩
 ·exact Yn (show _<=1000 by simp;omega) (by decide)
 have s0:Zf H (upd (upd (upd H p (.lst [V.int (-1)])) el (.lst (List.replicate (((ns.map V.int).length:Nat):Int).toNat [V.int (-1)]).flatten)) sp (.lst [])):=(((Zf.refl H).upd hp).ZL hel).ZL hsp
 refine⟨_,s0.q hS,by omega,by rw[eL];omega,?_⟩
 have en:(((ns.map V.int).length:Nat):Int).toNat=ns.length:=by rw[eL];omega
 have hel0:(upd (upd (upd H p (.lst [V.int (-1)])) el (.lst (List.replicate (((ns.map V.int).length:Nat):Int).toNat [V.int (-1)]).flatten)) sp (.lst [])) el=some (.lst ((List.replicate ns.length (-1:Int)).map V.int)):=by
  have:=((Zf.refl _).ZL (o:=.lst []) hsp) el _ Zd
  rw[this,en];simp
 have hsp0:(upd (upd (upd H p (.lst [V.int (-1)])) el (.lst (List.replicate (((ns.map V.int).length:Nat):Int).toNat [V.int (-1)]).flatten)) sp (.lst [])) sp=some (.lst (Zr [])):=Zd
 have nes:el≠sp:=λz=>by
  subst z
  rw[Zd]at hsp;cases hsp
 have zel:H el=none:=((Zf.refl H).upd hp).free hel
 have zsp:H sp=none:=(((Zf.refl H).upd hp).ZL hel).free hsp
 rw[en]at hel0 hsp0 s0⊢
 generalize (upd (upd (upd H p (.lst [V.int (-1)])) el (.lst (List.replicate ns.length [V.int (-1)]).flatten)) sp (.lst []))=H0 at s0 hel0 hsp0⊢
 refine Zak (λi σ Hx=>∃(es:List Int) (S:List Nat) (v3 v4:Option V),σ=[some (.ref r),some (.ref el),some (.ref sp),v3,v4]/\Zf H Hx/\Hx el=some (.lst (es.map V.int))/\Hx sp=some (.lst (Zr S))/\es.length=ns.length/\Zbk (nth ns) i S/\(∀p e,p<i->e=es.getD p 0->Zy (nth ns) i p e)/\∀p,i<=p->p<ns.length->es.getD p 0=-1)
  ⟨List.replicate ns.length (-1),[],none,none,rfl,s0,hel0,hsp0,by simp,⟨List.Pairwise.nil,λq=>by simp⟩,λp e hp=>by omega,λp _ hp=>by simp[Yg,hp]⟩ ?_ ?_
 ·rintro i σ Hx hi ⟨es,S,v3,v4,rfl,sx,hxe,hxs,hesl,hS2,hE,hE2⟩
  walk_at "rd"
  have hin:i<ns.length:=by omega
  have hSl:S.length<=1000:=by
   rcases ZiY S i 0 hS2.1 (λq hq=>⟨Yp _,((hS2.2 q).mp hq).1⟩)with z|z
   ·omega
   ·rw[z];simp
  refine⟨_,.inl (SqL.of hxs),?_⟩
  rw[ZI]
  refine Zhn S.length (λj σ Hy=>∃A B,S=A++B/\B.length=j/\(∀q∈B,nth ns i<nth ns q)/\σ=[some (.ref r),some (.ref el),some (.ref sp),some (.int (0+(i:Int))),some (.int (A.length:Nat))]/\Hy=Hx) ⟨S,[],by simp,rfl,(λq hq=>absurd hq (by simp)),rfl,rfl⟩ ?_
  rintro j σ Hy hj ⟨A,B,hAB,hBl,hBg,rfl,rfl⟩
  walk_at "rd"
  have hmem:∀q,q∈A++B->q<i:=λq hq=>((hS2.2 q).mp (by rw[hAB];exact hq)).1
  have hix:(0+(i:Int))=(i:Int):=by omega
  rw[hix]
  by_cases hA0:A=[]
  case' pos =>
   rw[Yb (by rw[hA0];simp)]
   have hA:∀q∈A,nth ns q<=nth ns i:=λq hq=>absurd hq (by rw[hA0];simp)
  case' neg =>
   obtain⟨q,Al,rfl⟩:∃q Al,A=Al++[q]:=⟨A.getLast hA0,A.dropLast,(List.dropLast_concat_getLast hA0).symm⟩
   have hal:(Al++[q]).length=Al.length+1:=by simp
   rw[Yc (by rw[hal];omega)]
   have eiA:(((Al++[q]).length:Nat):Int)-1=(Al.length:Int):=by rw[hal];omega
   have hat:S[Al.length]?=some q:=by
    rw[hAB,YY,Y1 (Yd _)];simp
   have hqi:q<i:=hmem q (by simp)
   refine⟨_,SqL.of hxs,_,by rw[eiA];exact Zft hat,_,_,rfl,sx.q hS,_,Zeo (by omega),_,sx.q hS,_,Zeo hin,_,rfl,_,rfl,Zbi (λhlt=>?_) (λhge=>?_)⟩
   ·have hj2:j+1<=S.length:=by rw[hAB,Yu,hal];omega
    refine⟨_,WI.next,hj2,Al,q::B,by rw[hAB];simp,by simp[hBl],λx hx=>?_,by rw[eiA],rfl⟩
    rcases Yj.mp hx with z|z
    ·rw[z];exact hlt
    ·exact hBg x z
   have hA:∀x∈Al++[q],nth ns x<=nth ns i:=λx hx=>by
    by_cases z:x=q
    ·rw[z];omega
    ·have hxa:x∈Al:=by
      rcases Ys.mp hx with y|y
      ·exact y
      ·exact absurd (by simpa using y) z
     have hpw:=hS2.1
     rw[hAB]at hpw
     have hxq:x<q:=(List.pairwise_append.mp (List.pairwise_append.mp hpw).1).2.2 x hxa q (by simp)
     have:=((hS2.2 x).mp (by rw[hAB];exact YN _ hx)).2 q hxq hqi
     omega
   generalize Al++[q]=A at hA hAB hmem hA0⊢
  all_goals
   have SS:=Zbl (f:=nth ns) (i:=i) (A:=A) (B:=B) (by rw[<-hAB];exact hS2) hA hBg
   refine⟨el,sp,es,A,B,i,rfl,hxe,by rw[<-hAB];exact hxs,nes,by omega,λq hq=>by have:=hmem q hq;omega,by rw[<-hAB];exact hSl,λH' q1 q2 q3=>?_⟩
   have hbi:∀b,B.head?=some b->b≠i:=λb hb=>by
    have:=hmem b (Yo _ (List.mem_of_head? hb));omega
   refine⟨λb o z=>q1 b o (Zt z zel) (Zt z zsp) (sx b o z),ZbL es A B i,q2,A++[i],q3,by rw[ZcF];exact hesl,SS.1,λp e hp he=>?_,λp hp1 hp2=>?_⟩
   ·rw[Zby _ _ _ _ _ (by omega) hbi]at he
    by_cases z:p=i
    ·subst z
     rw[Yc rfl,hE2 p (Yd _) (by omega)]at he
     rw[he];exact SS.2.1
    ·rw[Yb z]at he
     rw[he]
     exact SS.2.2 p _ (by omega) (hE p _ (by omega) rfl)
   ·rw[Zby _ _ _ _ _ (by omega) hbi,Yb (by omega),Yb (λz=>?_)]
    ·exact hE2 p (by omega) hp2
    ·have:=hmem p (Yo _ (List.mem_of_head? z));omega
 ·rintro σ Hx ⟨es,S,v3,v4,rfl,sx,hxe,hxs,hesl,hS2,hE,hE2⟩
  walk_at "rd"
  exact⟨_,.inl ⟨SqL.of hxe,λt ht=>k1 t es _ ⟨hesl,λp hp=>hE p _ hp rfl⟩ (sx.ZL ht) Zd⟩⟩
theorem ok_way_up {f:Addr}{fd:FuncData} (F:Fun K "way_up" "way_up" s_way_up f fd) (T:Txt K mg):FnOk P w K mg base (CXE P w) 1 f fd ["tree","place"] (sp_way_up K mg):=by
 refine F.okX sc_way_up (λvs H Q E h=>?_) (λcdv A outer s H vs Q E hr h=>?_)
 ·obtain⟨t,T,p,rfl,_⟩:=h;rfl
 obtain⟨t,T',p,rfl,ht,hn,hp,k1⟩:=h
 refine⟨_,(Zc (Zl (i:=2) sc_way_up.nd rfl (Or.inl rfl) (Zag Zb))
   (Zc (Zl (i:=3) sc_way_up.nd rfl (Or.inl rfl) (Za8 Zhd (pv 0) (pv 1) (λ_ _=>rfl)))
   (Zc (Za1 (Zfo PassesOwn.never (PW.pt (ZiK (ZhO Zlj ZeQ Zg (pv 3) (Zi (Zk (K:=K) rfl) rfl T.b_len Yq (Za (pv 0) Zb))) (Zg9 (Zs ZeQ (Zi (Zk (K:=K) rfl) rfl T.b_len Yq (Za (pv 2) Zb)) (Zi (Zk (K:=K) rfl) rfl T.b_len Yq (Za (pv 0) Zb)) (Zw _))))) (Zc (Zae (Zcy PySem.F.plainAttrs_list PySem.F.slot_list_append PySem.F.type_list_append Zbf (pv 2) (Za (pv 3) Zb)))
   (Ze (Zl (i:=3) sc_way_up.nd rfl (Or.inl rfl) (Za8 Zhd (pv 0) (pv 3) (λ_ _=>rfl)))))))
   (Ze (ZA (pv 2)))))),?_⟩
 walk_at "rd"
 refine⟨Yp _,λl hl=>⟨_,SqT.of (((Zf.refl H).upd hl) _ _ ht),_,Zeo hp,?_⟩⟩
 refine Zhn T'.length (λj σ Hx=>Zf H Hx/\Hx l=some (.lst (Zr (Zab T' j (nth T' p))))/\(Zab T' j (nth T' p)).length=j/\σ=[some (.ref t),some (.int p),some (.ref l),some (.int (Z8 T' j (nth T' p)))]) ⟨(Zf.refl H).upd hl,Zd,rfl,rfl⟩ ?_
 rintro j σ Hx hj ⟨sx,hxl,hjl,rfl⟩
 walk_at "rd"
 have hlen:(Zr (Zab T' j (nth T' p))).length=j:=by rw[ZI];exact hjl
 have eL:(T'.map V.int).length=T'.length:=Yh ..
 have done:(j=T'.length\/¬ (0<=Z8 T' j (nth T' p)/\Z8 T' j (nth T' p)<T'.length))->Q (.ref l) Hx:=λz=>by
  refine k1 l Hx hl sx ?_
  have:Zab T' T'.length (nth T' p)=Zab T' j (nth T' p):=by
   rcases z with z|z
   ·rw[<-z]
   ·exact ZgI T' j _ _ hj hjl z
  rw[hxl];unfold Zcz;rw[this];simp[Zr]
 refine Zbi (λh0=>⟨_,.inr (SqT.of (sx _ _ ht)),Zbi (λh1=>⟨_,.inl (SqL.of hxl),_,.inr (SqT.of (sx _ _ ht)),Zbi (λh2=>?_) λh2=>done (.inl (by rw[hlen,eL]at h2;omega))⟩) λh1=>done (.inr (by rw[eL]at h1;omega))⟩) λh0=>done (.inr (by omega))
 rw[eL]at h1;rw[hlen,eL]at h2
 obtain⟨a1,a2⟩:=ZgH T' j (nth T' p) h0 h1 hjl
 have ei:Z8 T' j (nth T' p)=(((Z8 T' j (nth T' p)).toNat:Nat):Int):=by omega
 have nlt:t≠l:=Zt ht hl
 refine⟨_,WI.next,Zbj hxl,_,hxl,by rw[hlen];exact YE (show _<=1000 by omega) (by decide),_,SqT.of (by rw[Zh nlt];exact sx _ _ ht),_,(congrArg (atI _) ei).trans (Zeo (by omega)),by omega,sx.upd hl,?_,?_,?_⟩
 ·rw[Zd,a1,Zdb]
  have:Zr [(Z8 T' j (nth T' p)).toNat]=[V.int (Z8 T' j (nth T' p))]:=by rw[ei];simp[Zr]
  rw[this]
 ·rw[a1];simp[hjl]
 ·rw[a2]
theorem Zjg {f:Addr}{fd:FuncData} (F:Fun K "is_tree" "is_tree" Zbg f fd) (ZeE:Callee P w K mg base "tree_of" 2 ["row"] (sp_tree_of K mg)) (Zb2:Callee P w K mg base "way_up" 1 ["tree","place"] (sp_way_up K mg)) (T:Txt K mg):FnOk P w K mg base (CXE P w) 3 f fd ["tree"] (Zcf K mg):=by
 refine F.okX ZfN (λvs H Q E h=>?_) (λcdv A outer s H vs Q E hr h=>?_)
 ·obtain⟨t,T,rfl,_⟩:=h;rfl
 obtain⟨t,T',rfl,ht,hn,k1,k2⟩:=h
 refine⟨_,(Zc (Zaj (PW.pt (Zgu (Zek (Zej (Zi (ZgE (K:=K) rfl) rfl T.b_isinstance Zdh (Za (pv 0) (Za (Zjs (v:=.ty "tuple") rfl T.b_tuple Zav rfl) Zb))))) (Zfn (Zs Zgx (Zi (Zk (K:=K) rfl) rfl T.b_len Yq (Za (pv 0) Zb)) (Zfd (v:=.int 40) rfl T.m_MOST_PLACES ⟨_,rfl⟩) (Zw _))))) (Ze (ZA Zfm)) ZK)
   (Zc (ZbZ (i:=1) ["place","tree"] [none,some 0] ZfN.nd rfl (Or.inl rfl) rfl rfl rfl (ZF rfl T.b_range (Za (Zi (Zk (K:=K) rfl) rfl T.b_len Yq (Za (pv 0) Zb)) Zb)) (λ_ _ _ _ _=>(Zq (i:=0) (show(["place","tree"]:List Str).Nodup from by decide +kernel) rfl (Or.inl rfl))) (λ_ _ _ _ _=>Zac) (λ_ _ _ _ _=>(Zi (Zk (K:=K) rfl) rfl T.b_len Yq (Za (Zj Zb2 (hr.mono (by decide)) rfl ZN (Za (pv 1) (Za (pv 0) Zb))) Zb))) ZC)
   (Ze (ZA (Zfe (ZlB (K:=K) rfl hr) (Zj ZeE (hr.mono (by decide)) rfl ZN (Za (pv 1) Zb)) (pv 0) (Zw _)))))),?_⟩
 walk_at "rd"
 have eL:(T'.map V.int).length=T'.length:=Yh ..
 refine⟨true,.inl ⟨_,.tup ht,by with_unfolding_all rfl⟩,Zbi (λz=>nomatch z) λ_=>⟨_,.inr (SqT.of ht),Zbi (λz=>k2 (λg=>?_) _ (Zf.refl H)) λz=>⟨_,.inr (SqT.of ht),by omega,by rw[eL];omega,?_⟩⟩⟩
 ·rw[eL]at z;have:=g.1;omega
 rw[eL]at z⊢
 have en:((T'.length:Nat):Int).toNat=T'.length:=by omega
 rw[en]
 refine comp_map (n:=T'.length) (λq=>V.int (nth (Zdw T') q)) (YE hn (by decide)) (λj Hx s hj=>hj) (λHx s=>Yd _) ?_ ?_
 ·rintro j x Hx Hy hj s ⟨rfl,rfl⟩
  walk_at "rd"
  refine⟨t,T',j,by simp,s _ _ ht,hn,hj,λl H9 hl s9 h9=>⟨l,rfl,_,.inl (SqL.of h9),CW.next hj ?_ (s.trans s9)⟩⟩
  rw[Zh2 hj,Yh];simp[Zcz]
 ·intro l' Hx s hl'
  have ed:(List.range T'.length).map (λq=>V.int (nth (Zdw T') q))=(Zdw T').map V.int:=by
   rw[<-ZdW T'];exact range_getD _ _ V.int _ rfl
  rw[ed]
  have u:=s.ZL (o:=.lst ((Zdw T').map V.int)) hl'
  refine⟨l',Zdw T',rfl,.inl (SqL.of Zd),by rw[ZdW];exact hn,λt2 es H2 hT2 s2 ht2=>⟨t2,rfl,_,ZjM (n:=2) ZjL _ _ es T' (ZdU (SqT.of ht2)) (ZdU (SqT.of ((u.trans s2) _ _ ht))),?_⟩⟩
  by_cases g:es=T'
  ·rw[Y2 g];exact k1 ⟨by omega,_,g▸hT2⟩ _ (u.trans s2)
  ·rw[YQ g];exact k2 (λgg=>g (hT2.unique ((Zkl T').mp gg.2))) _ (u.trans s2)
theorem Zhy {f:Addr}{fd:FuncData} (F:Fun K "need_tree" "need_tree" Zao f fd) (ZaP:Callee P w K mg base "is_tree" 3 ["tree"] (Zcf K mg)) (T:Txt K mg):FnOk P w K mg base (CXE P w) 4 f fd ["tree"] (Zcg K mg):=by
 refine F.okX Zhx (λvs H Q E h=>?_) (λcdv A outer s H vs Q E hr h=>?_)
 ·obtain⟨t,T,rfl,_⟩:=h;rfl
 obtain⟨t,T',rfl,ht,hn,k1,k2⟩:=h
 refine⟨_,(Ze (Zaj (Zek (Zej (Zj ZaP (hr.mono (by decide)) rfl ZN (Za (pv 0) Zb)))) (Ze (ZbY rfl rfl T.c_NoTree T.x_NoTree (Za (Zc9 (Zb6 (by decide) (Zhl (Zi (Zk (K:=K) rfl) rfl T.b_len Yq (Za (pv 0) Zb)) (Zb6 (by decide) Zhk)))) Zb) Zda)) ZK)),?_⟩
 walk_at "rd"
 exact⟨t,T',rfl,ht,hn,λg H1 s1=>⟨true,rfl,Zbi (λz=>nomatch z) λ_=>k1 g _ s1⟩,λg H1 s1=>⟨false,rfl,Zbi (λ_=>⟨_,.inr (SqT.of (s1 _ _ ht)),by omega,by rw[Yh];omega,λy=>⟨by decide,k2 g _ s1⟩⟩) λz=>absurd rfl z⟩⟩
theorem Zhz {f:Addr}{fd:FuncData} (F:Fun K "fences_of" "fences_of" Zap f fd) (Zb2:Callee P w K mg base "way_up" 1 ["tree","place"] (sp_way_up K mg)) (T:Txt K mg):FnOk P w K mg base (CXE P w) 2 f fd ["tree"] (Zch K mg):=by
 refine F.okX Z5 (λvs H Q E h=>?_) (λcdv A outer s H vs Q E hr h=>?_)
 ·obtain⟨t,ns,T,rfl,_⟩:=h;rfl
 obtain⟨t,ns,T',rfl,ht,hT,hn,k1⟩:=h
 refine⟨_,(Zc (Zl (i:=1) Z5.nd rfl (Or.inl rfl) (Zag Zb))
   (Zc (Za1 (Za0 PassesOwn.never rfl (ZF rfl T.b_range (Za (Zi (Zk (K:=K) rfl) rfl T.b_len Yq (Za (pv 0) Zb)) Zb)) (Zq (i:=2) Z5.nd rfl (Or.inr rfl)) (Zc (Zl (i:=3) Z5.nd rfl (Or.inl rfl) (Zj Zb2 (hr.mono (by decide)) rfl ZN (Za (pv 0) (Za (pv 2) Zb))))
   (Zc (Zl (i:=4) Z5.nd rfl (Or.inl rfl) (ZmY (K:=K) rfl rfl rfl T.b_max (Za (ZaW ["elder","place"] [none,some 2] rfl rfl rfl (Zbx (pv 3)) (λ_ _ _ _ _=>(Zq (i:=0) (show(["elder","place"]:List Str).Nodup from by decide +kernel) rfl (Or.inl rfl))) (λ_ _ _ _ _=>ZdQ (Zs ZeQ (pv 0) (pv 1) (Zw _))) (λ_ _ _ _ _=>(pv 0)) ZC) Zb) (Zjy (Zju Zhc Zg) Zll)))
   (Zc (Zl (i:=5) Z5.nd rfl (Or.inl rfl) (ZmZ (K:=K) rfl rfl rfl T.b_min (Za (ZaW ["elder","place"] [none,some 2] rfl rfl rfl (Zbx (pv 3)) (λ_ _ _ _ _=>(Zq (i:=0) (show(["elder","place"]:List Str).Nodup from by decide +kernel) rfl (Or.inl rfl))) (λ_ _ _ _ _=>ZdQ (Zs Zgx (pv 0) (pv 1) (Zw _))) (λ_ _ _ _ _=>(pv 0)) ZC) Zb) (Zjy (Zi (Zk (K:=K) rfl) rfl T.b_len Yq (Za (pv 0) Zb)) Zll)))
   (Ze (Zae (Zcy PySem.F.plainAttrs_list PySem.F.slot_list_append PySem.F.type_list_append Zbf (pv 1) (Za (Zlk (Za (pv 4) (Za (pv 5) Zb))) Zb)))))))))
   (Ze (ZA (pv 1))))),?_⟩
 walk_at "rd"
 have eT:T'.length=ns.length:=hT.1
 have eL:(T'.map V.int).length=T'.length:=Yh ..
 refine⟨Yp _,λp hp=>?_⟩
 have s0:Zf H (upd H p (.lst [])):=(Zf.refl H).upd hp
 refine⟨_,.inr (SqT.of (s0 _ _ ht)),by omega,by rw[eL];omega,?_⟩
 have en:(((T'.map V.int).length:Nat):Int).toNat=ns.length:=by rw[eL];omega
 rw[en]
 have h0:Zaf (upd H p (.lst [])) p 0 (λp=>(Zbb (nth ns) p,Zas (nth ns) ns.length p)):=⟨[],Zd,rfl,λj q hq=>by simp at hq⟩
 generalize upd H p (.lst [])=H0 at s0 h0⊢
 refine Zak (λi σ Hx=>∃v2 v3 v4 v5,σ=[some (.ref t),some (.ref p),v2,v3,v4,v5]/\Zaf Hx p i (λp=>(Zbb (nth ns) p,Zas (nth ns) ns.length p))/\Zf H Hx) ⟨_,_,_,_,rfl,h0,s0⟩ ?_ ?_
 ·rintro i σ Hx hi ⟨v2,v3,v4,v5,rfl,hP,sx⟩
  have e0:((0:Int)+(i:Int))=(i:Int):=by omega
  rw[e0]
  have hpi:i<ns.length:=hi
  have hw1:(Zcz T' i).length<=1000:=by simp only[Zcz,Yh];exact Yn (Zh3 _ _ _) (by omega)
  refine ZdY (fun σ Hy=>∃w:Addr,σ=[some (.ref t),some (.ref p),some (.int (i:Int)),some (.ref w),v4,v5]/\Hy w=some (.lst ((Zcz T' i).map V.int))/\Zaf Hy p i (λp=>(Zbb (nth ns) p,Zas (nth ns) ns.length p))/\Zf H Hy) (λR hR=>?_) ?_
  ·walk_at "rd"
   exact⟨t,T',i,rfl,sx _ _ ht,by omega,by omega,λw H1 hw s1 h1=>hR _ _ ⟨w,rfl,h1,hP.same s1,sx.trans s1⟩⟩
  rintro σ Hy ⟨w,rfl,hw,hP1,sy⟩
  refine ZdY (fun σ Hz=>σ=[some (.ref t),some (.ref p),some (.int (i:Int)),some (.ref w),some (.int (Zbb (nth ns) i)),v5]/\Hz w=some (.lst ((Zcz T' i).map V.int))/\Zaf Hz p i (λp=>(Zbb (nth ns) p,Zas (nth ns) ns.length p))/\Zf H Hz) (λR hR=>?_) ?_
  ·walk_at "rd"
   refine⟨⟨_,SqL.of hw⟩,ZgM (λo=>decide (o<(i:Int))) hw hw1 (λx Hy R hR=>?_) λl H2 s2 hl=>?_⟩
   ·walk_at "rd"
    exact hR
   have FA:=Zia hT hpi
   have g:=s2.ZL (o:=.lst (((Zcz T' i).filter λo=>decide (o<(i:Int))).map V.int)) hl
   refine⟨l,rfl,_,SqL.of Zd,λe=>?_,λhne m hm hmax=>?_⟩
   ·rw[<-FA.1 e]
    exact hR _ _ ⟨rfl,g _ _ hw,hP1.same g,sy.trans g⟩
   ·rw[FA.2 hne m hm hmax]
    exact hR _ _ ⟨rfl,g _ _ hw,hP1.same g,sy.trans g⟩
  clear hw hP1 sy Hy
  rintro σ Hy ⟨rfl,hw,hP1,sy⟩
  refine ZdY (fun σ Hz=>σ=[some (.ref t),some (.ref p),some (.int (i:Int)),some (.ref w),some (.int (Zbb (nth ns) i)),some (.int (Zas (nth ns) ns.length i))]/\Zaf Hz p i (λp=>(Zbb (nth ns) p,Zas (nth ns) ns.length p))/\Zf H Hz) (λR hR=>?_) ?_
  ·walk_at "rd"
   refine⟨⟨_,SqL.of hw⟩,ZgM (λo=>decide ((i:Int)<o)) hw hw1 (λx Hy R hR=>?_) λl H2 s2 hl=>?_⟩
   ·walk_at "rd"
    exact hR
   have FB:=Zib hT hpi
   have g:=s2.ZL (o:=.lst (((Zcz T' i).filter λo=>decide ((i:Int)<o)).map V.int)) hl
   refine⟨_,.inr (SqT.of ((sy.trans g) _ _ ht)),l,rfl,_,SqL.of Zd,λe=>?_,λhne m hm hmin=>?_⟩
   ·rw[eL,eT,<-FB.1 e]
    exact hR _ _ ⟨rfl,hP1.same g,sy.trans g⟩
   ·rw[FB.2 hne m hm hmin]
    exact hR _ _ ⟨rfl,hP1.same g,sy.trans g⟩
  clear hw hP1 sy Hy
  rintro σ Hy ⟨rfl,hP1,sy⟩
  walk_at "rd"
  obtain⟨qs,hq1,hq2,hq3⟩:=id hP1
  refine⟨Zbj hq1,by decide,λq hq=>?_⟩
  have g:=(Zf.refl Hy).upd (o:=.tup [.int (Zbb (nth ns) i),.int (Zas (nth ns) ns.length i)]) hq
  obtain⟨xs,hx1,hx2,hx3⟩:=(hP1.same g).push (q:=q) Zd
  have zp:H p=none:=hp
  refine⟨xs,hx1,YE (show _<=1000 by omega) (by decide),hx3,λb o z=>?_⟩
  rw[Zh (Zt z zp)]
  exact(sy.trans g) b o z
 ·rintro σ Hx ⟨v2,v3,v4,v5,rfl,hP,sx⟩
  walk_at "rd"
  exact k1 p Hx sx hP
theorem Zir {f:Addr}{fd:FuncData} (F:Fun K "drops_of" "drops_of" ZaL f fd) (ZcM:Callee P w K mg base "need_tree" 4 ["tree"] (Zcg K mg)) (ZcN:Callee P w K mg base "fences_of" 2 ["tree"] (Zch K mg)) (T:Txt K mg):FnOk P w K mg base (CXE P w) 5 f fd ["tree"] (ZcK K mg):=by
 refine F.okX ZbC (λvs H Q E h=>?_) (λcdv A outer s H vs Q E hr h=>?_)
 ·obtain⟨t,T,rfl,_⟩:=h;rfl
 obtain⟨t,T',rfl,ht,hn,k⟩:=h
 refine⟨_,(Zc (Zae (Zj ZcM (hr.mono (by decide)) rfl Zc8 (Za (pv 0) Zb)))
   (Zc (Zl (i:=1) ZbC.nd rfl (Or.inl rfl) (Zm Zhh (Zag (Za Zg Zb)) (Zi (Zk (K:=K) rfl) rfl T.b_len Yq (Za (pv 0) Zb))))
   (Zc (Za1 (Za0 PassesOwn.never rfl (Zbx (Zj ZcN (hr.mono (by decide)) rfl ZN (Za (pv 0) Zb))) (ZiL (n:=2) rfl (ZbX (Zq (i:=2) ZbC.nd rfl (Or.inl rfl)) (ZbX (Zq (i:=3) ZbC.nd rfl (Or.inl rfl)) Zha))) (Ze (Zaj (Zs ZeQ (pv 3) (Zi (Zk (K:=K) rfl) rfl T.b_len Yq (Za (pv 0) Zb)) (Zw _)) (Ze (ZmL (pv 1) (pv 3) (ZlH (K:=K) rfl) Zg Zlf set_list)) ZK))))
   (Ze (ZA (Zal (ZaI (K:=K) rfl) rfl T.b_tuple Zav (Za (pv 1) Zb))))))),?_⟩
 have eL:(T'.map V.int).length=T'.length:=Yh ..
 refine ZdY (fun σ Hx=>∃ns:List Int,σ=[some (.ref t),none,none,none]/\T'.length<=40/\Zp ns T'/\(∀(u:Addr) H',Zf H H'->H' u=some (.tup (Zr (Zu (nth ns) ns.length)))->Q (.ref u) H')/\Zf H Hx) (λR hR=>?_) ?_
 ·walk_at "rd"
  refine⟨t,T',rfl,ht,hn,λg H1 s1=>?_,λg H1 s1=>?_⟩
  ·rcases k with⟨ns,h40,hT,k1⟩|⟨ng,_⟩
   ·exact hR _ _ ⟨ns,rfl,h40,hT,k1,s1⟩
   ·exact absurd g ng
  ·rcases k with⟨ns,h40,hT,k1⟩|⟨ng,k2⟩
   ·exact absurd ⟨h40,ns,hT⟩ g
   ·exact k2 _ s1
 clear k
 rintro σ H1 ⟨ns,rfl,h40,hT,k1,s1⟩
 have eT:=hT.1
 refine ZdY (fun σ Hx=>∃dl:Addr,σ=[some (.ref t),some (.ref dl),none,none]/\H dl=none/\Hx dl=some (.lst (((List.range ns.length).map λk=>(((List.range 0).countP (λp=>decide (Zas (nth ns) ns.length p=((k:Nat):Int))):Nat):Int)).map V.int))/\Hx t=some (.tup (T'.map V.int))/\Zf H Hx) (λR hR=>?_) ?_
 ·walk_at "rd"
  refine⟨by decide,λp hp=>⟨_,.inr (SqT.of (((Zf.refl H1).upd hp) _ _ (s1 _ _ ht))),_,Zd,by omega,by rw[eL];omega,?_,λdl hdl=>?_⟩⟩
  ·exact Yn (show _<=1000 by simp;omega) (by decide)
  have s2:=s1.ZL (o:=.lst [V.int 0]) hp
  refine hR _ _ ⟨dl,rfl,s2.free hdl,?_,(s2.ZL hdl) _ _ ht,s2.ZL hdl⟩
  rw[Zd,eL,Y9,eT,List.flatten_replicate_singleton,YU]
  congr 2
  refine(List.eq_replicate_iff.mpr ⟨by simp,λb hb=>?_⟩).symm
  simp at hb
  exact hb.2.symm
 clear s1 H1
 rintro σ H1 ⟨dl,rfl,zd,hdl,ht1,s1⟩
 refine ZdY (fun σ Hx=>∃v2 v3,σ=[some (.ref t),some (.ref dl),v2,v3]/\Hx dl=some (.lst (((List.range ns.length).map λk=>(((List.range ns.length).countP (λp=>decide (Zas (nth ns) ns.length p=((k:Nat):Int))):Nat):Int)).map V.int))/\Zf H Hx) (λR hR=>?_) ?_
 ·walk_at "rd"
  refine⟨t,ns,T',rfl,ht1,hT,by omega,λl H2 s2 hP=>⟨l,rfl,?_⟩⟩
  obtain⟨qs,h1,h2,h3⟩:=hP
  refine⟨⟨_,SqL.of h1⟩,?_⟩
  have hd2:=s2 _ _ hdl
  have nld:0<ns.length->l≠dl:=λhpos z=>by
   rw[z,hd2]at h1
   have:=congrArg (λo=>match o with|some (HO.lst (V.int _::_))=>true|_=>false) h1
   match qs,h2,this with
   |[],h2,_=>simp at h2;omega
   |q::qs,_,this =>
    obtain⟨m,hm⟩:∃m,ns.length=m+1:=⟨ns.length-1,by omega⟩
    rw[hm,List.range_succ_eq_map]at this
    simp at this
  by_cases hpos:0<ns.length
  case neg =>
   have hn0:ns.length=0:=by omega
   refine Zfu (n:=ns.length) (λj σ Hx=>σ=[some (.ref t),some (.ref dl),none,none]/\Hx=H2) ⟨rfl,rfl⟩ (λj σ Hx hj _=>absurd hj (by omega)) (fun σ Hx ⟨_,e⟩=>e▸⟨_,SqL.of h1,by rw[Yh];omega⟩) (λj x σ Hx Hx' hj=>absurd hj (by omega)) ?_
   rintro σ Hx ⟨rfl,rfl⟩
   refine hR _ _ ⟨_,_,rfl,?_,s1.trans s2⟩
   rw[hd2,hn0]
  refine Zfu (n:=ns.length) (λj σ Hx=>∃v2 v3,σ=[some (.ref t),some (.ref dl),v2,v3]/\Hx dl=some (.lst (((List.range ns.length).map λk=>(((List.range j).countP (λp=>decide (Zas (nth ns) ns.length p=((k:Nat):Int))):Nat):Int)).map V.int))/\(0<ns.length->Hx l=some (.lst (qs.map V.ref)))/\(∀(j:Nat) (q:Addr),qs[j]?=some q->Hx q=some (.tup [.int (Zbb (nth ns) j),.int (Zas (nth ns) ns.length j)]))/\Hx t=some (.tup (T'.map V.int))/\Zf H Hx) ⟨_,_,rfl,hd2,λ_=>h1,λj q hq=>h3 j q hq,s2 _ _ ht1,s1.trans s2⟩ (λj σ Hx hj ⟨_,_,_,_,hx,_⟩=>⟨_,_,SqL.of (hx (by omega)),Yf (by rw[Yh];omega)⟩) ?_ ?_ ?_
  ·rintro σ Hx ⟨v2,v3,rfl,hxd,hxl,hxq,hxt,sx⟩
   exact⟨_,SqL.of (hxl hpos),by rw[Yh];omega⟩
  ·rintro j x σ Hx Hx' hj ⟨v2,v3,rfl,hxd,hxl,hxq,hxt,sx⟩ ⟨rfl,hx⟩
   have ex:=hx _ (SqL.of (hxl (by omega)))
   obtain⟨q,hq⟩:∃q,qs[j]?=some q:=⟨qs[j]'(by omega),Yf (by omega)⟩
   rw[YB,hq]at ex
   cases ex
   have hq1:=hxq j q hq
   obtain⟨b1,b2,b3,b4⟩:=Zhq (f:=nth ns) hj
   obtain⟨fb,hfb⟩:=Ja (show 0<=Zas (nth ns) ns.length j by omega)
   rw[hfb]at hq1 b3 b4
   refine⟨q,_,rfl,SqT.of hq1,rfl,_,_,rfl,_,_,rfl,rfl,?_⟩
   walk_at "rd"
   refine⟨_,.inr (SqT.of hxt),?_⟩
   rw[eL,eT]
   have stp:∀k:Nat,((List.range (j+1)).countP (λp=>decide (Zas (nth ns) ns.length p=((k:Nat):Int))))=(List.range j).countP (λp=>decide (Zas (nth ns) ns.length p=((k:Nat):Int)))+if fb=k then 1 else 0:=λk=>by
    rw[YR,List.countP_append,List.countP_singleton,hfb]
    by_cases e:fb=k
    ·rw[Yc e,Yc (by simp[e])]
    ·rw[Yb e,Yb (by simp;omega)]
   refine Zbi (λz=>?_) λz=>?_
   ·have nq:∀q xs,Hx' q=some (.tup xs)->q≠dl:=λq xs h z=>by rw[z,hxd]at h;cases h
    refine⟨_,SqL.of hxd,_,Zeo (show fb < _ by simp;omega),_,rfl,_,hxd,fb,by rw[Yh,Yh,Y0];exact Zho (by omega),?_,λ_=>by rw[Zh (nld hpos)];exact hxl hpos,λj q hq=>by rw[Zh (nq _ _ (hxq j q hq))];exact hxq j q hq,by rw[Zh (nq _ _ hxt)];exact hxt,sx.upd zd⟩
    rw[Zd,Zad (by omega),<-List.map_set,Zgl]
    congr 3
    refine List.map_congr_left λk hk=>?_
    rw[stp k]
    by_cases e:k=fb
    ·rw[Yc e,Yc e.symm,<-e];omega
    ·rw[Yb e,Yb (λy=>e y.symm)];omega
   ·refine⟨?_,hxl,hxq,hxt,sx⟩
    rw[hxd]
    congr 3
    refine List.map_congr_left λk hk=>?_
    have:=Yr.mp hk
    rw[stp k,Yb (by omega)];rfl
  ·rintro σ Hx ⟨v2,v3,rfl,hxd,hxl,hxq,hxt,sx⟩
   exact hR _ _ ⟨_,_,rfl,hxd,sx⟩
 clear s1 hdl ht1 H1
 rintro σ H1 ⟨v2,v3,rfl,hd,s1⟩
 walk_at "rd"
 refine⟨_,.inl ⟨SqL.of hd,λu hu=>k1 u _ (s1.ZL hu) ?_⟩⟩
 rw[Zd]
 congr 2
 unfold Zr Zu
 rw[YU,YU]
 refine List.map_congr_left λk hk=>?_
 show V.int _=V.int _
 rw[<-ZcH (Yr.mp hk)]
theorem ZfO {f:Addr}{fd:FuncData} (F:Fun K "brackets_of" "brackets_of" ZU f fd) (ZdA:Callee P w K mg base "drops_of" 5 ["tree"] (ZcK K mg)) (T:Txt K mg):FnOk P w K mg base (CXE P w) 6 f fd ["tree"] (Zaz K mg):=by
 refine F.okX Zbo (λvs H Q E h=>?_) (λcdv A outer s H vs Q E hr h=>?_)
 ·obtain⟨t,T,rfl,_⟩:=h;rfl
 obtain⟨t,T',rfl,ht,hn,k⟩:=h
 refine⟨_,(Zc (Zl (i:=1) Zbo.nd rfl (Or.inl rfl) (Zj ZdA (hr.mono (by decide)) rfl Zc8 (Za (pv 0) Zb)))
   (Zc (Zl (i:=2) Zbo.nd rfl (Or.inl rfl) (Zm ZbK (Zi (Zk (K:=K) rfl) rfl T.b_len Yq (Za (pv 1) Zb)) (Zi (Zky (K:=K) rfl rfl) rfl T.b_sum ZiT (Za (pv 1) Zb))))
   (Ze (ZA (Zm Zb5 (Zcy PySem.F.plainAttrs_str PySem.F.slot_str_join PySem.F.type_str_join (ZjP (K:=K) rfl) Zaa (Za (ZaW ["drop"] [none] rfl rfl rfl (Zlg (pv 1)) (λ_ _ _ _ _=>(Zq (i:=0) (show(["drop"]:List Str).Nodup from by decide +kernel) rfl (Or.inl rfl))) (λ_ _ _ _ _=>Zac) (λ_ _ _ _ _=>(Zm Zb5 (Zm ZjO Zaa (pv 0)) Zaa)) ZC) Zb)) (Zm ZjO Zaa (pv 2))))))),?_⟩
 walk_at "rd"
 refine⟨t,T',rfl,ht,hn,k.imp (λ⟨ns,h40,hT,k1⟩=>⟨ns,h40,hT,λu H1 s1 hu=>?_⟩) id⟩
 have eT:=hT.1
 have hD:=ZgN (nth ns) ns.length
 have ld:=ZY (nth ns) ns.length
 generalize Zu (nth ns) ns.length=ds at hu k1 hD ld
 have hsum:=Zht hD
 have hu':=hu
 rw[ZgS]at hu'
 have hl:(Zr ds).length=ds.length:=ZI ds
 refine⟨u,rfl,_,.inr (SqT.of hu),u,rfl,_,SqT.of hu',rfl,u,rfl,⟨_,SqT.of hu⟩,?_⟩
 refine comp_map (n:=ds.length) (λj=>V.str (txt (List.replicate (ds.getD j 0) 41++[40]))) (YE (show _<=1000 by omega) (by decide)) (λj Hx s hj=>⟨_,_,SqT.of (s _ _ hu),Yf (by rw[hl];exact hj)⟩) (λHx s=>⟨_,SqT.of (s _ _ hu),Nat.le_of_eq hl⟩) ?_ ?_
 ·rintro j x Hx Hy hj s ⟨rfl,hx⟩
  have ex:=hx _ (SqT.of (s _ _ hu))
  have ed:(Zr ds)[j]?=some (V.int (ds.getD j 0:Nat)):=by simp[Zr,Yg,hj]
  rw[ed]at ex
  cases ex
  have hd1:ds.getD j 0<=40:=by
   have:=hD j hj
   have:=Zfv ds j
   omega
  walk_at "rd"
  refine⟨by omega,by omega,by rw[Zan,Zbc];decide,?_,?_⟩
  ·rw[Zan,Zd3,Zfj,Zbc,Zbc,List.length_replicate,Y9]
   exact Yn (show ds.getD j 0+1<=1000 by omega) (by decide)
  ·refine CW.next hj ?_ s
   rw[Zan,Zd3,Zfj,Zd4,Y9]
 ·intro l Hx sx hl1
  have el:(List.range ds.length).map (λj=>V.str (txt (List.replicate (ds.getD j 0) 41++[40])))=((ds.map λd=>List.replicate d 41++[40]).map txt).map V.str:=by
   rw[YU,YU]
   refine List.ext_getElem (by simp) λj j1 j2=>?_
   have:j<ds.length:=by simpa using j1
   simp[Yg,this]
  have ef:(ds.map λd=>List.replicate d 41++[40]).flatten=Za2 ds:=rfl
  have lb:=Zd5 ds
  refine⟨l,rfl,_,SqL.of (by rw[Zd,el]),Zfy (by rw[ef];omega),?_,?_,by rw[Zan,Zbc];decide,?_,?_⟩
  ·rw[hl,ZaY];omega
  ·rw[hl,ZaY];omega
  ·rw[Zeu,ef,Zan,Zfj,Zbc,Zbc,List.length_replicate,lb,hl,ZaY]
   exact Yn (show _<=1000 by omega) (by decide)
  ·rw[Zeu,ef,Zan,Zfj,Zd4,hl,ZaY,show(((ds.length:Nat):Int)-((ds.sum:Nat):Int)).toNat=ds.length-ds.sum by omega]
   exact k1 _ (s1.trans (sx.ZL hl1))
theorem ZfP (ds:List Nat):∀i,(∀q∈(Zn ds i).1,q<i)/\(Zn ds i).1.length=ZaG ds i/\(Zn ds i).2.length=ds.length
 |0=>⟨λq h=>absurd h (by simp[Zn]),rfl,by simp[Zn]⟩
 |i+1=>by
  obtain⟨h1,h2,h3⟩:=ZfP ds i
  refine⟨λq hq=>?_,?_,?_⟩
  ·simp only[Zn,Ys,YW]at hq
   rcases hq with hq|hq
   ·have:=h1 q (List.mem_of_mem_take hq);omega
   ·omega
  ·simp only[Zn,Yu,Y4,Yz,List.length_nil,ZaG]
   rw[h2];omega
  ·simp only[Zn]
   rw[ZcF];exact h3
theorem ZeB (ds:List Int):∀p,p<=ds.length->Zhw ds p->((ZaG (ds.map Int.toNat) p:Nat):Int)=p-(ds.take p).sum
 |0,_,_=>by simp[ZaG]
 |p+1,hp,h=>by
  have ih:=ZeB ds p (by omega) λk hk=>h k (by omega)
  have h1:=h p (by omega)
  have e1:(ds.map Int.toNat).getD p 0=(nth ds p).toNat:=by simp[nth,Yg,show p<ds.length by omega]
  have e2:(ds.take (p+1)).sum=(ds.take p).sum+nth ds p:=by
   have eg:ds[p]'(by omega)=nth ds p:=by simp[nth,Yg,show p<ds.length by omega]
   rw[YO,Yf (show p<ds.length by omega),List.sum_append,eg]
   simp
  simp only[ZaG]
  rw[e1,e2]
  omega
theorem ZaB (ds:List Int):ZS ds↔ds.length<=40/\Zhw ds ds.length:=by
 refine⟨λh=>⟨h.1,?_⟩,λh=>⟨h.1,λp hp=>?_⟩⟩
 ·have:∀i,i<=ds.length->Zhw ds i:=λi=>by
   induction i with
   |zero=>intro _ k hk;omega
   |succ i ih =>
    intro hi k hk
    by_cases e:k=i
    ·subst e
     have h1:=h.2 k (by omega)
     have h2:=ZeB ds k (by omega) (ih (by omega))
     exact⟨h1.1,by omega⟩
    ·exact ih (by omega) k (by omega)
  exact this _ (Yd _)
 ·have h1:=h.2 p hp
  have h2:=ZeB ds p (by omega) λk hk=>h.2 k (by omega)
  exact⟨h1.1,by omega⟩
theorem Zgn {f:Addr}{fd:FuncData} (F:Fun K "need_short" "need_short" Z3 f fd) (T:Txt K mg):FnOk P w K mg base (CXE P w) 1 f fd ["told"] (ZaQ K mg):=by
 refine F.okX Zgm (λvs H Q E h=>?_) (λcdv A outer s H vs Q E hr h=>?_)
 ·obtain⟨t,xs,rfl,_⟩:=h;rfl
 obtain⟨t,xs,rfl,ht,hn,k1,k2⟩:=h
 refine⟨_,(Ze (Zaj (PW.pt (Zgu (Zek (Zej (Zi (ZgE (K:=K) rfl) rfl T.b_isinstance Zdh (Za (pv 0) (Za (Zjs (v:=.ty "tuple") rfl T.b_tuple Zav rfl) Zb))))) (Zfn (Zs Zgx (Zi (Zk (K:=K) rfl) rfl T.b_len Yq (Za (pv 0) Zb)) (Zfd (v:=.int 40) rfl T.m_MOST_PLACES ⟨_,rfl⟩) (Zw _))))) (Ze (ZbY rfl rfl T.c_NoTelling T.x_NoTelling (Za (Zc9 (Zb6 (by decide) (Zhl (Zfd (v:=.int 40) rfl T.m_MOST_PLACES ⟨_,rfl⟩) (Zb6 (by decide) Zhk)))) Zb) Zda)) ZK)),?_⟩
 walk_at "rd"
 refine⟨true,.inl ⟨_,.tup ht,ZhW⟩,Zbi (λz=>nomatch z) λ_=>⟨_,.inr (SqT.of ht),Zbi (λz=>?_) λz=>k1 (by omega)⟩⟩
 exact⟨by omega,by decide,λy=>⟨by decide,k2 (by omega) _ (Zf.refl H)⟩⟩
theorem Zjh {f:Addr}{fd:FuncData} (F:Fun K "kept_by" "kept_by" Zbh f fd) (T:Txt K mg):FnOk P w K mg base (CXE P w) 1 f fd ["spine","place","distance"] (Zdz K mg):=by
 refine F.okX Zjf (λvs H Q E h=>?_) (λcdv A outer s H vs Q E hr h=>?_)
 ·obtain⟨sp,A,i,d,rfl,_⟩:=h;rfl
 obtain⟨sp,S,i,d,rfl,hsp,hpw,hlen,hi,k1,k2⟩:=h
 refine⟨_,(Zc (Zaj (Zs ZeP (pv 2) Zg (Zw _)) (Ze (ZA Zg)) ZK)
   (Zc (Zaj (Zs (Zkm (K:=K) rfl) (Zm ZbK (pv 1) (pv 2)) (pv 0) (by with_unfolding_all rfl)) (Ze (ZbY rfl rfl T.c_NoTelling T.x_NoTelling (Za (Zc9 (Zb6 (by decide) (Zhl (pv 1) (Zb6 (by decide) Zhk)))) Zb) Zda)) ZK)
   (Ze (ZA (Zm Zb4 (Zcy PySem.F.plainAttrs_list PySem.F.slot_list_index PySem.F.type_list_index (ZlD (K:=K) rfl) (pv 0) (Za (Zm ZbK (pv 1) (pv 2)) Zb)) Zg))))),?_⟩
 walk_at "rd"
 by_cases z:d=0
 ·rw[Yc z]
  exact k1 [] S rfl (.inl ⟨rfl,z⟩)
 rw[Yb z]
 rw[Zi4]at hsp
 refine⟨_,.inl (SqL.of hsp),rfl,Zkn _,?_⟩
 rw[ZmV]
 by_cases y:∃q∈S,(i:Int)-d=(q:Nat)
 ·obtain⟨q,hq,e⟩:=y
  rw[e]
  have hm:(q:Int)∈S.map λq=>((q:Nat):Int):=YD.mpr ⟨q,hq,rfl⟩
  rw[Yb (by simp[hm])]
  refine⟨Zbj hsp,_,SqL.of hsp,by rw[Yh];omega,hm,?_⟩
  obtain⟨A1,B,hAB⟩:=List.append_of_mem hq
  have hAB':S=A1++[q]++B:=by rw[hAB];simp
  rw[hAB']at hpw
  rw[hAB',Zm0 hpw]
  have:=k1 (A1++[q]) B hAB' (.inr ⟨A1,q,rfl,e⟩)
  rw[Yu]at this
  exact this
 ·have hm:(i:Int)-d∉S.map λq=>((q:Nat):Int):=λh=>by
   obtain⟨q,hq,e⟩:=YD.mp h
   exact y ⟨q,hq,e.symm⟩
  rw[Yc (YQ hm)]
  exact⟨by omega,by omega,λ_=>⟨by decide,k2 (λw=>w.elim z y)⟩⟩
theorem Ze8 {f:Addr}{fd:FuncData} (F:Fun K "by_distances" "by_distances" ZO f fd) (ZaC:Callee P w K mg base "settle" 1 ["elders","spine","place","keep"] (sp_settle K mg)) (Z7:Callee P w K mg base "need_short" 1 ["told"] (ZaQ K mg)) (ZeF:Callee P w K mg base "kept_by" 1 ["spine","place","distance"] (Zdz K mg)) (T:Txt K mg):FnOk P w K mg base (CXE P w) 2 f fd ["told"] (Za4 K mg):=by
 refine F.okX ZT (λvs H Q E h=>?_) (λcdv A outer s H vs Q E hr h=>?_)
 ·obtain⟨t,ns,rfl,_⟩:=h;rfl
 obtain⟨t,ds,rfl,ht,hn,k1,k2⟩:=h
 refine⟨_,(Zc (Zae (Zj Z7 (hr.mono (by decide)) rfl Zc8 (Za (pv 0) Zb)))
   (Zc (Zl (i:=1) ZT.nd rfl (Or.inl rfl) (Zm Zhh (Zag (Za (Zju Zhc Zg) Zb)) (Zi (Zk (K:=K) rfl) rfl T.b_len Yq (Za (pv 0) Zb))))
   (Zc (Zl (i:=2) ZT.nd rfl (Or.inl rfl) (Zag Zb))
   (Zc (Za0 PassesOwn.leaving rfl (Zh9 (K:=K) rfl rfl T.b_enumerate (Za (pv 0) Zb)) (ZiL (n:=2) rfl (ZbX (Zq (i:=3) ZT.nd rfl (Or.inl rfl)) (ZbX (Zq (i:=4) ZT.nd rfl (Or.inl rfl)) Zha))) (Ze (Zae (Zj ZaC (hr.mono (by decide)) rfl ZN (Za (pv 1) (Za (pv 2) (Za (pv 3) (Za (Zj ZeF (hr.mono (by decide)) rfl Zc8 (Za (pv 2) (Za (pv 3) (Za (pv 4) Zb)))) Zb))))))))
   (Ze (ZA (Zal (ZaI (K:=K) rfl) rfl T.b_tuple Zav (Za (pv 1) Zb)))))))),?_⟩
 walk_at "rd"
 have eL:(ds.map V.int).length=ds.length:=Yh ..
 refine⟨t,_,rfl,ht,by rw[eL];exact hn,λz40=>⟨by decide,λp hp=>⟨_,.inr (SqT.of (((Zf.refl H).upd hp) _ _ ht)),_,Zd,by omega,by rw[eL];omega,?_,λel hel=>⟨Yp _,λsp hsp=>?_⟩⟩⟩,λz40 H' s'=>k2 (λg=>by have:=g.1;rw[eL]at z40;omega) _ s'⟩
 ·exact Yn (show _<=1000 by simp;omega) (by decide)
 have en:(((ds.map V.int).length:Nat):Int).toNat=ds.length:=by rw[eL];omega
 have s0:Zf H (upd (upd (upd H p (.lst [V.int (-1)])) el (.lst (List.replicate (((ds.map V.int).length:Nat):Int).toNat [V.int (-1)]).flatten)) sp (.lst [])):=(((Zf.refl H).upd hp).ZL hel).ZL hsp
 refine⟨_,SqT.of (s0 _ _ ht),?_⟩
 have hel0:(upd (upd (upd H p (.lst [V.int (-1)])) el (.lst (List.replicate (((ds.map V.int).length:Nat):Int).toNat [V.int (-1)]).flatten)) sp (.lst [])) el=some (.lst ((List.replicate ds.length (-1:Int)).map V.int)):=by
  have:=((Zf.refl _).ZL (o:=.lst []) hsp) el _ Zd
  rw[this,en];simp
 have hsp0:(upd (upd (upd H p (.lst [V.int (-1)])) el (.lst (List.replicate (((ds.map V.int).length:Nat):Int).toNat [V.int (-1)]).flatten)) sp (.lst [])) sp=some (.lst (Zr [])):=Zd
 have nes:el≠sp:=λz=>by
  subst z
  rw[Zd]at hsp;cases hsp
 have zel:H el=none:=((Zf.refl H).upd hp).free hel
 have zsp:H sp=none:=(((Zf.refl H).upd hp).ZL hel).free hsp
 rw[en]at hel0 hsp0 s0⊢
 generalize (upd (upd (upd H p (.lst [V.int (-1)])) el (.lst (List.replicate ds.length [V.int (-1)]).flatten)) sp (.lst []))=H0 at s0 hel0 hsp0⊢
 refine Zfu (n:=ds.length) (λi σ Hx=>∃(es:List Int) (S:List Nat) (v3 v4:Option V),σ=[some (.ref t),some (.ref el),some (.ref sp),v3,v4]/\Hx el=some (.lst (es.map V.int))/\Hx sp=some (.lst (Zr S))/\es.length=ds.length/\(∀p,i<=p->p<ds.length->es.getD p 0=-1)/\Zd9 ds.length i S es ds/\Zf H Hx/\∀p,p<i->ADAt ds p)
  ⟨List.replicate ds.length (-1),[],none,none,rfl,hel0,hsp0,by simp,(λp _ hp=>by simp[Yg,hp]),Zje _ _ _,s0,λk hk=>absurd hk (by omega)⟩ (λi σ Hx hi ⟨_,_,_,_,_,_,_,_,_,_,sx,_⟩=>⟨_,_,SqT.of (sx _ _ ht),Yf (by rw[eL];exact hi)⟩) (fun σ Hx ⟨_,_,_,_,_,_,_,_,_,_,sx,_⟩=>⟨_,SqT.of (sx _ _ ht),eL⟩) ?_ ?_
 ·rintro i x σ Hx Hx' hi ⟨es,S,v3,v4,rfl,hxe,hxs,hesl,hE2,hG,sx,hA⟩ ⟨q,x,hq,rfl,rfl,hx⟩
  have ex:=hx _ (SqT.of (sx _ _ ht))
  rw[YB,Yf hi]at ex
  cases ex
  have eg:ds[i]=nth ds i:=by simp[nth,Yg,hi]
  rw[eg]
  have g:=(Zf.refl Hx).upd (o:=.tup [.int (i:Int),.int (nth ds i)]) hq
  have tq:(upd Hx q (.tup [.int (i:Int),.int (nth ds i)])) q=some (.tup [.int (i:Int),.int (nth ds i)]):=Zd
  replace sx:=sx.trans g
  replace hxe:=g _ _ hxe
  replace hxs:=g _ _ hxs
  generalize upd Hx q (.tup [.int (i:Int),.int (nth ds i)])=Hy at sx hxe hxs tq⊢
  clear g hx hq Hx
  have hSlt:=hG.lt
  have hG0:=hG
  obtain⟨f,hS,_,_,hD⟩:=hG0
  have hSl:S.length<=1000:=by
   rcases ZiY S i 0 hS.1 (λq hq=>⟨Yp _,hSlt q hq⟩)with z|z
   ·omega
   ·rw[z];simp
  have hiff:=ad_iff hD hS
  refine⟨q,_,rfl,SqT.of tq,rfl,_,_,rfl,_,_,rfl,rfl,?_⟩
  clear tq
  walk_at "rd"
  refine⟨sp,S,i,_,rfl,hxs,hS.1,hSl,by omega,λA' B hAB hd=>?_,λhb=>k2 (λgd=>hb (hiff.mp (gd.2 i hi))) _ sx⟩
  have hok:ADAt ds i:=hiff.mpr (by
   rcases hd with⟨_,z⟩|⟨A1,q,e1,e2⟩
   ·exact .inl z
   ·exact .inr ⟨q,by rw[hAB,e1];simp,e2⟩)
  subst hAB
  refine⟨el,sp,es,A',B,i,rfl,hxe,hxs,nes,by omega,λq hq=>by have:=hSlt q hq;omega,hSl,λH' q1 q2 q3=>?_⟩
  have hbi:∀b,B.head?=some b->b≠i:=λb hb=>by
   have:=hSlt b (Yo _ (List.mem_of_head? hb));omega
  refine⟨ZbL es A' B i,q2,A'++[i],q3,by rw[ZcF];exact hesl,λp p1 p2=>?_,hG.step hi hesl (hE2 i (Yd _) hi) hd,λb o z=>q1 b o (Zt z zel) (Zt z zsp) (sx b o z),λk hk=>?_⟩
  ·rw[Zby _ _ _ _ _ (by omega) hbi,Yb (by omega),Yb (λz=>?_)]
   ·exact hE2 p (by omega) p2
   ·have:=hSlt p (Yo _ (List.mem_of_head? z));omega
  ·by_cases e:k=i
   ·subst e;exact hok
   ·exact hA k (by omega)
 ·rintro σ Hx ⟨es,S,v3,v4,rfl,hxe,hxs,hesl,hE2,hG,sx,hA⟩
  walk_at "rd"
  obtain⟨ns,hT,hds⟩:=hG.tree hesl rfl
  exact⟨_,.inl ⟨SqL.of hxe,λu hu=>k1 ⟨by rw[eL]at z40;exact z40,λp hp=>hA p hp⟩ u ns es _ (sx.ZL hu) hT hds Zd⟩⟩
theorem Zis {f:Addr}{fd:FuncData} (F:Fun K "by_drops" "by_drops" ZaM f fd) (ZaC:Callee P w K mg base "settle" 1 ["elders","spine","place","keep"] (sp_settle K mg)) (Z7:Callee P w K mg base "need_short" 1 ["told"] (ZaQ K mg)) (T:Txt K mg):FnOk P w K mg base (CXE P w) 2 f fd ["told"] (ZbB K mg):=by
 refine F.okX ZaZ (λvs H Q E h=>?_) (λcdv A outer s H vs Q E hr h=>?_)
 ·obtain⟨t,xs,rfl,_⟩:=h;rfl
 obtain⟨t,ds,rfl,ht,hn,k1,k2⟩:=h
 refine⟨_,(Zc (Zae (Zj Z7 (hr.mono (by decide)) rfl Zc8 (Za (pv 0) Zb)))
   (Zc (Zl (i:=1) ZaZ.nd rfl (Or.inl rfl) (Zm Zhh (Zag (Za (Zju Zhc Zg) Zb)) (Zi (Zk (K:=K) rfl) rfl T.b_len Yq (Za (pv 0) Zb))))
   (Zc (Zl (i:=2) ZaZ.nd rfl (Or.inl rfl) (Zag Zb))
   (Zc (Za0 PassesOwn.leaving rfl (Zh9 (K:=K) rfl rfl T.b_enumerate (Za (pv 0) Zb)) (ZiL (n:=2) rfl (ZbX (Zq (i:=3) ZaZ.nd rfl (Or.inl rfl)) (ZbX (Zq (i:=4) ZaZ.nd rfl (Or.inl rfl)) Zha))) (Zc (Zaj (Zek (ZhO Zlj Zlj Zg (pv 4) (Zi (Zk (K:=K) rfl) rfl T.b_len Yq (Za (pv 2) Zb)))) (Ze (ZbY rfl rfl T.c_NoTelling T.x_NoTelling (Za (Zc9 (Zb6 (by decide) (Zhl (pv 3) Zhk))) Zb) Zda)) ZK)
   (Ze (Zae (Zj ZaC (hr.mono (by decide)) rfl ZN (Za (pv 1) (Za (pv 2) (Za (pv 3) (Za (Zm ZbK (Zi (Zk (K:=K) rfl) rfl T.b_len Yq (Za (pv 2) Zb)) (pv 4)) Zb)))))))))
   (Ze (ZA (Zal (ZaI (K:=K) rfl) rfl T.b_tuple Zav (Za (pv 1) Zb)))))))),?_⟩
 walk_at "rd"
 have eL:(ds.map V.int).length=ds.length:=Yh ..
 refine⟨t,_,rfl,ht,by rw[eL];exact hn,λz40=>⟨by decide,λp hp=>⟨_,.inr (SqT.of (((Zf.refl H).upd hp) _ _ ht)),_,Zd,by omega,by rw[eL];omega,?_,λel hel=>⟨Yp _,λsp hsp=>?_⟩⟩⟩,λz40 H' s'=>k2 (λg=>by have:=g.1;rw[eL]at z40;omega) _ s'⟩
 ·exact Yn (show _<=1000 by simp;omega) (by decide)
 have en:(((ds.map V.int).length:Nat):Int).toNat=ds.length:=by rw[eL];omega
 have s0:Zf H (upd (upd (upd H p (.lst [V.int (-1)])) el (.lst (List.replicate (((ds.map V.int).length:Nat):Int).toNat [V.int (-1)]).flatten)) sp (.lst [])):=(((Zf.refl H).upd hp).ZL hel).ZL hsp
 refine⟨_,SqT.of (s0 _ _ ht),?_⟩
 have hel0:(upd (upd (upd H p (.lst [V.int (-1)])) el (.lst (List.replicate (((ds.map V.int).length:Nat):Int).toNat [V.int (-1)]).flatten)) sp (.lst [])) el=some (.lst ((List.replicate ds.length (-1:Int)).map V.int)):=by
  have:=((Zf.refl _).ZL (o:=.lst []) hsp) el _ Zd
  rw[this,en];simp
 have hsp0:(upd (upd (upd H p (.lst [V.int (-1)])) el (.lst (List.replicate (((ds.map V.int).length:Nat):Int).toNat [V.int (-1)]).flatten)) sp (.lst [])) sp=some (.lst (Zr [])):=Zd
 have nes:el≠sp:=λz=>by
  subst z
  rw[Zd]at hsp;cases hsp
 have zel:H el=none:=((Zf.refl H).upd hp).free hel
 have zsp:H sp=none:=(((Zf.refl H).upd hp).ZL hel).free hsp
 rw[en]at hel0 hsp0 s0⊢
 generalize (upd (upd (upd H p (.lst [V.int (-1)])) el (.lst (List.replicate ds.length [V.int (-1)]).flatten)) sp (.lst []))=H0 at s0 hel0 hsp0⊢
 refine Zfu (n:=ds.length) (λi σ Hx=>∃(es:List Int) (S:List Nat) (v3 v4:Option V),σ=[some (.ref t),some (.ref el),some (.ref sp),v3,v4]/\Hx el=some (.lst (es.map V.int))/\Hx sp=some (.lst (Zr S))/\Zn (ds.map Int.toNat) i=(S,es)/\Zf H Hx/\Zhw ds i)
  ⟨List.replicate ds.length (-1),[],none,none,rfl,hel0,hsp0,by simp[Zn],s0,λk hk=>absurd hk (by omega)⟩ (λi σ Hx hi ⟨_,_,_,_,_,_,_,_,sx,_⟩=>⟨_,_,SqT.of (sx _ _ ht),Yf (by rw[eL];exact hi)⟩) (fun σ Hx ⟨_,_,_,_,_,_,_,_,sx,_⟩=>⟨_,SqT.of (sx _ _ ht),eL⟩) ?_ ?_
 ·rintro i x σ Hx Hx' hi ⟨es,S,v3,v4,rfl,hxe,hxs,hst0,sx,hRt⟩ ⟨q,x,hq,rfl,rfl,hx⟩
  have ex:=hx _ (SqT.of (sx _ _ ht))
  rw[YB,Yf hi]at ex
  cases ex
  have eg:ds[i]=nth ds i:=by simp[nth,Yg,hi]
  rw[eg]
  obtain⟨hSlt,hSl,hel'⟩:=ZfP (ds.map Int.toNat) i
  rw[hst0]at hSlt hSl hel'
  have hok:=Zfv (ds.map Int.toNat) i
  have hSl:S.length=ZaG (ds.map Int.toNat) i:=hSl
  have hel':es.length=ds.length:=(show es.length=(ds.map Int.toNat).length from hel').trans (Yh ..)
  have hSlt:∀q∈S,q<i:=hSlt
  have edn:(ds.map Int.toNat).getD i 0=(nth ds i).toNat:=by simp[nth,Yg,hi]
  generalize hdd:nth ds i=d at edn⊢
  have g:=(Zf.refl Hx).upd (o:=.tup [.int (i:Int),.int d]) hq
  have tq:(upd Hx q (.tup [.int (i:Int),.int d])) q=some (.tup [.int (i:Int),.int d]):=Zd
  replace sx:=sx.trans g
  replace hxe:=g _ _ hxe
  replace hxs:=g _ _ hxs
  generalize upd Hx q (.tup [.int (i:Int),.int d])=Hy at sx hxe hxs tq⊢
  clear g hx hq Hx
  refine⟨q,_,rfl,SqT.of tq,rfl,_,_,rfl,_,_,rfl,rfl,?_⟩
  clear tq
  walk_at "rd"
  have hlx:(Zr S).length=S.length:=ZI S
  have bad:¬ (0<=d/\d<=S.length)->¬ ZS ds:=λz g=>by
   have:=((ZaB ds).mp g).2 i hi
   rw[hdd,<-hSl]at this
   exact z ⟨this.1,by omega⟩
  refine Zbi (λy=>⟨_,.inl (SqL.of hxs),Zbi (λz=>⟨by omega,by omega,λ_=>⟨by decide,k2 (bad λw=>z (by rw[hlx];exact w.2)) _ sx⟩⟩) λz=>⟨_,.inl (SqL.of hxs),?_⟩⟩) λy=>⟨by omega,by omega,λ_=>⟨by decide,k2 (bad λw=>y w.1) _ sx⟩⟩
  rw[hlx]at z
  have hdS:d.toNat<=S.length:=by omega
  obtain⟨A',B,hAB,hBl⟩:=Zfw S hdS
  have hSAB:S.length=A'.length+B.length:=by rw[hAB,Yu]
  refine⟨el,sp,es,A',B,i,?_,hxe,by rw[<-hAB];exact hxs,nes,by omega,λq hq=>by have:=hSlt q (by rw[hAB];exact hq);omega,by rw[<-hAB];omega,λH' q1 q2 q3=>?_⟩
  ·rw[hlx,show((S.length:Nat):Int)-d=(A'.length:Nat) by omega]
  refine⟨ZbL es A' B i,q2,A'++[i],q3,?_,λb o z=>q1 b o (Zt z zel) (Zt z zsp) (sx b o z),λk hk=>?_⟩
  ·rw[ZcG (A:=A') (B:=B) (by rw[hst0];exact hAB) (by rw[hBl,edn]),hst0]
  ·by_cases e:k=i
   ·subst e;rw[hdd];exact⟨y,by rw[<-hSl];exact hdS⟩
   ·exact hRt k (by omega)
 ·rintro σ Hx ⟨es,S,v3,v4,rfl,hxe,hxs,hst0,sx,hRt⟩
  walk_at "rd"
  exact⟨_,.inl ⟨SqL.of hxe,λu hu=>k1 ((ZaB ds).mpr ⟨by rw[eL]at z40;exact z40,hRt⟩) u _ (sx.ZL hu) (by rw[Zd];unfold Za9;rw[Yh,hst0])⟩⟩
theorem ZfQ {f:Addr}{fd:FuncData} (F:Fun K "by_brackets" "by_brackets" ZV f fd) (Zai:Callee P w K mg base "by_drops" 2 ["told"] (ZbB K mg)) (T:Txt K mg):FnOk P w K mg base (CXE P w) 3 f fd ["text"] (ZZ K mg):=by
 refine F.okX ZG (λvs H Q E h=>?_) (λcdv A outer s H vs Q E hr h=>?_)
 ·obtain⟨t,rfl,_⟩:=h;rfl
 obtain⟨l,rfl,ha,hn,k1,k2⟩:=h
 refine⟨_,(Zc (Zl (i:=1) ZG.nd rfl (Or.inl rfl) (Zag Zb))
   (Zc (Zl (i:=2) ZG.nd rfl (Or.inl rfl) Zg)
   (Zc (Za0 PassesOwn.leaving rfl (pi_str (pv 0)) (Zq (i:=3) ZG.nd rfl (Or.inl rfl)) (Ze (Zaj (Zs ZeP (pv 3) Zaa (Zw _)) (Zc (Zae (Zcy PySem.F.plainAttrs_list PySem.F.slot_list_append PySem.F.type_list_append Zbf (pv 1) (Za (pv 2) Zb)))
   (Ze (Zl (i:=2) ZG.nd rfl (Or.inl rfl) Zg))) (Ze (Zaj (Zs ZeP (pv 3) Zaa (Zw _)) (Ze (Zle (i:=2) ZG.nd rfl (Or.inl rfl) Zg Zlf)) (Ze (ZbY rfl rfl T.c_NoTelling T.x_NoTelling (Za Zaa Zb) Zda)))))))
   (Zc (Zl (i:=4) ZG.nd rfl (Or.inl rfl) (Zj Zai (hr.mono (by decide)) rfl Zc8 (Za (Zal (ZaI (K:=K) rfl) rfl T.b_tuple Zav (Za (pv 1) Zb)) Zb)))
   (Zc (Zaj (Zs Zgw (Zm Zb4 (Zi (ZhS rfl) rfl T.b_sum ZiT (Za (pv 1) Zb)) (pv 2)) (Zi (Zk (K:=K) rfl) rfl T.b_len Yq (Za (pv 1) Zb)) (Zw _)) (Ze (ZbY rfl rfl T.c_NoTelling T.x_NoTelling (Za Zaa Zb) Zda)) ZK)
   (Ze (ZA (pv 4)))))))),?_⟩
 walk_at "rd"
 have hsz:(txt l).cps.size=l.length:=by simp[txt]
 refine⟨Yp _,λp hp=>⟨?_,?_⟩⟩
 ·rw[Array.all_eq_true]
  intro i hi
  have hm:(txt l).cps[i]∈l:=by simp[txt]
  exact Y2 (ha _ hm)
 refine Zfu (n:=l.length) (λi σ Hx=>∃(a:List Nat) (c:Nat) (v3:Option V),σ=[some (.str (txt l)),some (.ref p),some (.int (c:Nat)),v3,none]/\(l.take i).foldl Zo ([],0)=(a,c)/\a.length<=i/\Hx p=some (.lst (Zr a))/\Zf H Hx/\∀x∈l.take i,x=40\/x=41) ⟨[],0,none,rfl,rfl,Yp _,Zd,(Zf.refl H).upd hp,λx hx=>absurd hx (by simp)⟩ (λi σ Hx hi _=>show i<(txt l).cps.size by omega) (fun σ Hx _=>show(txt l).cps.size<=l.length by omega) ?_ ?_
 ·rintro i x σ Hx Hx' hi ⟨a,c,v3,rfl,hf,hal,hxp,sx,hall⟩ ⟨rfl,q,hq,rfl⟩
  have hq':l[i]?=some q:=by simpa[txt]using hq
  have hstep:=Zi9 Zo ([],0) hq'
  rw[hf]at hstep
  have e1:(⟨#[q]⟩:Str)=Str.ofString "("↔q=40:=by
   rw[Zd3]
   exact⟨λz=>by simpa using Zhs (a:=[q]) z,λz=>by rw[z];rfl⟩
  have e2:(⟨#[q]⟩:Str)=Str.ofString ")"↔q=41:=by
   rw[Zan]
   exact⟨λz=>by simpa using Zhs (a:=[q]) z,λz=>by rw[z];rfl⟩
  have hall2:(q=40\/q=41)->∀x∈l.take (i+1),x=40\/x=41:=λz x hx=>by
   rw[YO,hq']at hx
   rcases Ys.mp hx with hx|hx
   ·exact hall x hx
   ·simp at hx;rw[hx];exact z
  walk_at "rd"
  refine Zbi (λz=>?_) λz=>Zbi (λy=>?_) λy=>?_
  ·obtain rfl:=e1.mp z
   refine⟨Zbj hxp,_,hxp,YE (show _<=1000 by rw[ZI];omega) (by decide),a++[c],0,rfl,hstep,by simp;omega,?_,sx.upd hp,hall2 (.inl rfl)⟩
   rw[Zd,Zdb];rfl
  ·obtain rfl:=e2.mp y
   exact⟨a,c+1,by omega,hstep,by omega,hxp,sx,hall2 (.inr rfl)⟩
  ·refine⟨by decide,k2 (λg=>?_) _ sx⟩
   rcases g.1 q (List.mem_of_getElem? hq')with w|w
   ·exact z (e1.mpr w)
   ·exact y (e2.mpr w)
 ·rintro σ Hx ⟨a,c,v3,rfl,hf,hal,hxp,sx,hall⟩
  rw[List.take_length]at hf hall
  walk_at "rd"
  have ea:Zr a=(a.map λ(d:Nat)=>(d:Int)).map V.int:=by simp[Zr,Function.comp_def]
  have et:(a.map λ(d:Nat)=>(d:Int)).map Int.toNat=a:=by simp[Function.comp_def]
  refine⟨_,.inl ⟨SqL.of hxp,λw hw=>⟨w,a.map λ(d:Nat)=>(d:Int),rfl,by rw[Zd,ea],by simp;omega,λgD u H2 s2 hu=>?_,λgD H2 s2=>k2 (λg=>gD (by have:=g.2.1;rw[hf]at this;exact this)) _ (sx.trans (((Zf.refl Hx).upd hw).trans s2))⟩⟩⟩
  rw[et]at hu
  have s3:=((Zf.refl Hx).upd (o:=.tup (Zr a)) hw).trans s2
  have hp2:=s3 _ _ hxp
  have hp3:=hp2
  rw[ZgS]at hp3
  refine⟨_,SqL.of hp3,_,.inl (SqL.of hp2),Zbi (λz=>⟨by decide,k2 (λg=>z ?_) _ (sx.trans s3)⟩) λz=>k1 ⟨hall,by rw[hf];exact gD,?_⟩ u H2 (sx.trans s3) (by rw[hf];exact hu)⟩
  ·have g3:a.sum+c=a.length:=by have:=g.2.2;rw[hf]at this;exact this
   rw[ZaY,ZI];omega
  ·rw[hf]
   have z':=Classical.not_not.mp z
   rw[ZaY,ZI]at z'
   show a.sum+c=a.length
   omega
theorem ZkM (b c:Nat) (i:Nat):Zer b (i+1) c=Zer b i c++[((c / b ^ i % b:Nat):Int)]:=by simp[Zer,YR]
theorem ZfR:∀j,0<=nth ZQ j/\nth ZQ j<=42
 |0=>by decide
 |1=>by decide
 |2=>by decide
 |3=>by decide
 |4=>by decide
 |5=>by decide
 |j+6=>by simp[nth,ZQ]
theorem ZjY {i j:Nat} (hi:i<5) (hj:j<i+1):atI ((ZQ.take (i+1)).map V.int) (j:Int)=some (V.int (nth ZQ j)):=by
 rw[Zeo (by simp[ZQ];omega)]
 simp[nth,Yg,List.getElem?_take,hj]
theorem ZkN:∀i,i<5->(ZQ.take (i+1)).map V.int++[V.int ((List.range (i+1)).map λj=>nth ZQ j*nth ZQ (i-j)).sum]=(ZQ.take (i+1+1)).map V.int
 |0,_=>rfl
 |1,_=>rfl
 |2,_=>rfl
 |3,_=>rfl
 |4,_=>rfl
 |i+5,h=>absurd h (by omega)
theorem ZkO {b i:Nat} (hb:b<=10) (hi:i<=10):b ^ i<=10000000000:=Yn (Nat.pow_le_pow_left hb i) (Yn (Nat.pow_le_pow_right (by decide) hi) (by decide))
theorem ZfS {f:Addr}{fd:FuncData} (F:Fun K "_law_digits" "_law_digits" ZW f fd) (T:Txt K mg):FnOk P w K mg base (CXE P w) 1 f fd ["code","base","many"] (Zbn K mg):=by
 refine F.okX ZaA (λvs H Q E h=>?_) (λcdv A outer s H vs Q E hr h=>?_)
 ·obtain⟨c,b,m,rfl,_⟩:=h;rfl
 obtain⟨c,b,m,rfl,hb,hb2,hm,hc,k1⟩:=h
 refine⟨_,(Zc (Zl (i:=3) ZaA.nd rfl (Or.inl rfl) (Zag Zb))
   (Zc (Za1 (Za0 PassesOwn.never rfl (ZF rfl T.b_range (Za (pv 2) Zb)) (Zq (i:=4) ZaA.nd rfl (Or.inl rfl)) (Zc (Zae (Zcy PySem.F.plainAttrs_list PySem.F.slot_list_append PySem.F.type_list_append Zbf (pv 3) (Za (Zm Zdr (pv 0) (pv 1)) Zb)))
   (Ze (Zl (i:=0) ZaA.nd rfl (Or.inl rfl) (Zm Zhb (pv 0) (pv 1)))))))
   (Ze (ZA (Zal (ZaI (K:=K) rfl) rfl T.b_tuple Zav (Za (pv 3) Zb)))))),?_⟩
 walk_at "rd"
 refine⟨by decide,λp hp=>⟨by omega,by omega,?_⟩⟩
 rw[show((m:Int)).toNat=m by omega]
 refine Zak (λi σ Hx=>∃v4,σ=[some (.int ((c / b ^ i:Nat):Int)),some (.int b),some (.int m),some (.ref p),v4]/\Hx=upd H p (.lst ((Zer b i c).map V.int))) ⟨none,by rw[Nat.pow_zero,Nat.div_one],rfl⟩ ?_ ?_
 ·rintro i σ Hx hi ⟨v4,rfl,rfl⟩
  walk_at "rd"
  refine⟨Zbj Zd,by omega,_,Zd,YE (show _<=1000 by simp[Zer];omega) (by decide),⟨by omega,by omega⟩,?_,?_⟩
  ·rw[Nat.pow_succ,<-Nat.div_div_eq_div_mul];rfl
  ·rw[ZmI,ZkM,Y8];rfl
 ·rintro σ Hx ⟨v4,rfl,rfl⟩
  walk_at "rd"
  refine⟨_,.inl ⟨SqL.of Zd,λu hu=>k1 u _ (((Zf.refl H).upd hp).ZL hu) Zd⟩⟩
theorem Zgo {f:Addr}{fd:FuncData} (F:Fun K "_law_power" "_law_power" Z4 f fd) (T:Txt K mg):FnOk P w K mg base (CXE P w) 1 f fd ["base","many"] (ZbM K mg):=by
 refine F.okX ZaR (λvs H Q E h=>?_) (λcdv A outer s H vs Q E hr h=>?_)
 ·obtain⟨b,m,rfl,_⟩:=h;rfl
 obtain⟨b,m,rfl,hb,hm,k1⟩:=h
 refine⟨_,(Zc (Zl (i:=2) ZaR.nd rfl (Or.inl rfl) Zg)
   (Zc (Za1 (Za0 PassesOwn.never rfl (ZF rfl T.b_range (Za (pv 1) Zb)) (Zq (i:=3) ZaR.nd rfl (Or.inl rfl)) (Ze (Zl (i:=2) ZaR.nd rfl (Or.inl rfl) (Zm Z1 (pv 2) (pv 0))))))
   (Ze (ZA (pv 2))))),?_⟩
 walk_at "rd"
 refine⟨by omega,by omega,?_⟩
 rw[show((m:Int)).toNat=m by omega]
 refine Zak (λi σ Hx=>∃v3,σ=[some (.int b),some (.int m),some (.int ((b ^ i:Nat):Int)),v3]/\Hx=H) ⟨none,rfl,rfl⟩ ?_ ?_
 ·rintro i σ Hx hi ⟨v3,rfl,rfl⟩
  have h1:=ZkO hb (show i<=10 by omega)
  walk_at "rd"
  refine⟨ZdT (by omega) (by omega),?_,_,rfl⟩
  rw[Nat.pow_succ,Int.natCast_mul]
 ·rintro σ Hx ⟨v3,rfl,rfl⟩
  walk_at "rd"
  exact k1
theorem ZhA {f:Addr}{fd:FuncData} (F:Fun K "_law_many" "_law_many" Zaq f fd) (T:Txt K mg):FnOk P w K mg base (CXE P w) 1 f fd ["many"] (Zci K mg):=by
 refine F.okX Zck (λvs H Q E h=>?_) (λcdv A outer s H vs Q E hr h=>?_)
 ·obtain⟨m,rfl,_⟩:=h;rfl
 obtain⟨m,rfl,hm,k1⟩:=h
 refine⟨_,(Zc (Zl (i:=1) Zck.nd rfl (Or.inr rfl) (Zag (Za Zg Zb)))
   (Zc (Za1 (Za0 PassesOwn.never rfl (ZF rfl T.b_range (Za (pv 0) Zb)) (Zq (i:=2) Zck.nd rfl (Or.inr rfl)) (Ze (Zae (Zcy PySem.F.plainAttrs_list PySem.F.slot_list_append PySem.F.type_list_append Zbf (pv 1) (Za (Zi (ZhS rfl) rfl T.b_sum ZiT (Za (ZaW ["j","found","k"] [none,some 1,some 2] rfl rfl rfl (ZF rfl T.b_range (Za (Zm Zb4 (pv 2) Zg) Zb)) (λ_ _ _ _ _=>(Zq (i:=0) (show(["j","found","k"]:List Str).Nodup from by decide +kernel) rfl (Or.inl rfl))) (λ_ _ _ _ _=>Zac) (λ_ _ _ _ _=>(Zm Z1 (Za8 (r:=rIxL K) Zat (pv 1) (pv 0) (λ_ _=>rfl)) (Za8 (r:=rIxL K) Zat (pv 1) (Zm ZbK (pv 2) (pv 0)) (λ_ _=>rfl)))) ZC) Zb)) Zb))))))
   (Ze (ZA (Za8 Zat (pv 1) (pv 0) (λ_ _=>rfl)))))),?_⟩
 walk_at "rd"
 refine⟨by decide,λp hp=>⟨by omega,by omega,?_⟩⟩
 rw[show((m:Int)).toNat=m by omega]
 refine Zak (λi σ Hx=>∃v2,σ=[some (.int m),some (.ref p),v2]/\Hx p=some (.lst ((ZQ.take (i+1)).map V.int))/\Zf H Hx) ⟨none,rfl,Zd,(Zf.refl H).upd hp⟩ ?_ ?_
 ·rintro i σ Hx hi ⟨v2,rfl,hx,s1⟩
  walk_at "rd"
  refine⟨Zbj hx,by omega,by omega,?_⟩
  rw[show(0+(i:Int)+1).toNat=i+1 by omega]
  refine comp_map (n:=i+1) (λj=>V.int (nth ZQ j*nth ZQ (i-j))) (YE (show _<=1000 by omega) (by decide)) (λj Hz _ hj=>hj) (λHz _=>Yd _) ?_ ?_
  ·rintro j x Hz Hz' hj sz ⟨rfl,rfl⟩
   walk_at "rd"
   have hz:=sz _ _ hx
   have m1:=ZfR j
   have m2:=ZfR (i-j)
   refine⟨_,SqL.of hz,V.int (nth ZQ j),by rw[show(0+(j:Int))=j by omega];exact ZjY (by omega) hj,_,SqL.of hz,V.int (nth ZQ (i-j)),by rw[show(0+(i:Int)-(0+(j:Int)))=((i-j:Nat):Int) by omega];exact ZjY (by omega) (by omega),_,rfl,_,rfl,ZdT (by omega) (by omega),?_⟩
   exact CW.next hj rfl sz
  ·intro l Hz sz hl
   have nlp:p≠l:=λz=>by rw[<-z,sz _ _ hx]at hl;cases hl
   refine⟨l,rfl,(List.range (i+1)).map λj=>nth ZQ j*nth ZQ (i-j),SqL.of (by rw[Zd,YU];rfl),_,by rw[Zh nlp];exact sz _ _ hx,YE (show _<=1000 by simp;omega) (by decide),?_,?_⟩
   ·rw[Zd,ZkN i (by omega)]
   ·exact(s1.trans (sz.ZL hl)).upd hp
 ·rintro σ Hx ⟨v2,rfl,hx,s1⟩
  walk_at "rd"
  refine⟨_,SqL.of hx,V.int (nth ZQ m),?_,k1 _ s1⟩
  have h:m<6:=by omega
  revert h
  clear k1 hx hm
  revert m
  decide
theorem Zbp {ds:List Int} (h:ZS ds):∃ns,Zp ns (Za9 (ds.map Int.toNat))/\Zu (nth ns) ns.length=ds.map Int.toNat/\Zr (ds.map Int.toNat)=ds.map V.int/\(Za9 (ds.map Int.toNat)).length<=40:=by
 obtain⟨h1,h2⟩:=(ZaB ds).mp h
 have eL:(ds.map Int.toNat).length=ds.length:=Yh ..
 have hD:Zcc (ds.map Int.toNat):=λk hk=>by
  rw[eL]at hk
  have:=(h2 k hk).2
  rw[show(ds.map Int.toNat).getD k 0=(nth ds k).toNat by simp[nth,Yg,hk]]
  exact this
 obtain⟨ns,hT,hd⟩:=Zi7 hD
 have hl:=Zkx hD
 have hn:ns.length=ds.length:=by have:=hT.1;omega
 refine⟨ns,hT,?_,?_,by omega⟩
 ·refine List.ext_getElem (by rw[ZY,eL,hn]) λk k1 k2=>?_
  have:=hd k k2
  rw[Yg,Yf k2]at this
  simp only[Option.getD_some]at this
  rw[<-this]
  simp[Zu]
 ·refine List.ext_getElem (by simp[Zr]) λk k1 k2=>?_
  have hk:k<ds.length:=by simpa using k2
  have:=(h2 k hk).1
  rw[show nth ds k=ds[k] by simp[nth,Yg,hk]]at this
  simp[Zr]
  omega
theorem Zit {f:Addr}{fd:FuncData} (F:Fun K "_law_led" "_law_led" ZaO f fd) (ZaD:Callee P w K mg base "by_distances" 2 ["told"] (Za4 K mg)) (Zai:Callee P w K mg base "by_drops" 2 ["told"] (ZbB K mg)) (Zx:Callee P w K mg base "by_brackets" 3 ["text"] (ZZ K mg)) (T:Txt K mg):FnOk P w K mg base (CXE P w) 4 f fd ["way","told"] (ZcL K mg):=by
 refine F.okX ZbD (λvs H Q E h=>?_) (λcdv A outer s H vs Q E hr h=>?_)
 ·obtain⟨way,v,k,rfl,_⟩:=h;rfl
 obtain⟨way,v,k,rfl,hS,k1,k2⟩:=h
 refine⟨_,(Zc (Zl (i:=2) ZbD.nd rfl (Or.inl rfl) ZiJ)
   (Zc (Zm7 ⟨rfl,rfl⟩ rfl T.c_NoTelling T.x_NoTelling (λEc pl=>(Ze (Zl (i:=2) ZbD.nd rfl (Or.inl rfl) (ZkL (ZfB Zai (hr.mono (by decide)) (ZfB ZaD (hr.mono (by decide)) (ZfB Zx (hr.mono (by decide)) Zm2))) passT (Za8 (r:=rIxL K) Zat (Zag (Za (Zjd (mg:=mg) rfl Zai rfl) (Za (Zjd (mg:=mg) rfl ZaD rfl) (Za (Zjd (mg:=mg) rfl Zx rfl) Zb)))) (pv 0) (λ_ _=>rfl)) (Za (pv 1) Zb))))) (λA'=>(Ze (Zl (i:=2) ZbD.nd rfl (Or.inl rfl) ZiJ))))
   (Ze (ZA (pv 2))))),?_⟩
 walk_at "rd"
 refine⟨fun σ1 C _ H1=>σ1=[some (.int way),some v,some .non]/\C=.ref (clsAt mg "NoTelling")/\Zf H H1/\¬ Fine way k,?_,?_⟩
 ·walk_at "rd"
  refine⟨by decide,λp hp=>⟨_,SqL.of Zd,?_⟩⟩
  have s0:=(Zf.refl H).upd (o:=.lst [V.ref (clsAt mg "by_drops"),V.ref (clsAt mg "by_distances"),V.ref (clsAt mg "by_brackets")]) hp
  rcases hS with⟨hw,t,rfl,ht,hl⟩|⟨rfl,l,rfl,rfl,ha,hl⟩
  ·rcases hw with rfl|rfl
   ·refine⟨_,rfl,_,YM ..,t,k,rfl,s0 _ _ ht,by omega,λg u H1 s1 hu=>?_,λg H1 s1=>⟨rfl,s0.trans s1,λf=>g (f.1 rfl)⟩⟩
    walk_at "rd"
    obtain⟨ns,hT,hd,hv,h40⟩:=Zbp g
    exact k1 ⟨λ_=>g,(λz=>by cases z),λz=>by cases z⟩ u _ _ (s0.trans s1) ⟨ns,hT,by have:=hT.1;omega,(λ_=>by rw[hd,hv]),(λz=>by cases z),λz=>by cases z⟩ hu
   ·refine⟨_,rfl,_,YK _ (YM ..),t,k,rfl,s0 _ _ ht,by omega,λg u ns es H1 s1 hT hd hu=>?_,λg H1 s1=>⟨rfl,s0.trans s1,λf=>g (f.2.1 rfl)⟩⟩
    walk_at "rd"
    exact k1 ⟨(λz=>by cases z),λ_=>g,λz=>by cases z⟩ u _ _ (s0.trans s1) ⟨ns,hT,by rw[<-hd,ZgL]at hl;omega,(λz=>by cases z),(λ_=>hd),λz=>by cases z⟩ hu
  ·have el:(l.map λ(c:Nat)=>(c:Int)).map Int.toNat=l:=by simp[Function.comp_def]
   refine⟨_,rfl,_,YK _ (YK _ (YM ..)),l,rfl,ha,by omega,λg u H1 s1 hu=>?_,λg H1 s1=>⟨rfl,s0.trans s1,λf=>g (by have:=f.2.2 rfl;rwa [el]at this)⟩⟩
   walk_at "rd"
   obtain⟨ns,hT,hd,hv,h40⟩:=Zbp g.2.1
   have et:((l.foldl Zo ([],0)).1.map λ(d:Nat)=>(d:Int)).map Int.toNat=(l.foldl Zo ([],0)).1:=by simp[Function.comp_def]
   rw[et]at hT hd hv h40
   exact k1 ⟨(λz=>by cases z),(λz=>by cases z),λ_=>by rw[el];exact g⟩ u _ _ (s0.trans s1) ⟨ns,hT,by have:=hT.1;omega,(λz=>by cases z),(λz=>by cases z),λ_=>by rw[hd,ZlT g]⟩ hu
 ·rintro σ1 C H1 ⟨rfl,rfl,s1,nf⟩
  refine⟨_,rfl,T.ups_NoTelling,λe he=>?_⟩
  walk_at "rd"
  exact k2 nf _ (s1.ZL he)
theorem cnt_eq (l:List Nat) (c:Nat):(l.countP λx=>decide (x=c))=l.count c:=by
 rw[List.count]
 exact List.countP_congr λx _=>by simp
theorem ZjZ:∀l:List Nat,(∀c∈l,c=40\/c=41)->l.count 40+l.count 41=l.length
 |[],_=>rfl
 |c::l,h=>by
  have ih:=ZjZ l λx hx=>h x (YK _ hx)
  rcases h c (YM ..)with rfl|rfl<;>simp[List.count_cons]<;>omega
theorem ZhB {f:Addr}{fd:FuncData} (F:Fun K "_law_text" "_law_text" Zar f fd) (Z0:Callee P w K mg base "_law_take" 1 ["pot","many"] (sp__law_take K mg)) (T:Txt K mg):FnOk P w K mg base (CXE P w) 2 f fd ["pot"] (Zcj K mg):=by
 refine F.okX Z6 (λvs H Q E h=>?_) (λcdv A outer s H vs Q E hr h=>?_)
 ·obtain⟨p,rfl,_⟩:=h;rfl
 obtain⟨p,rfl,hP,k1⟩:=h
 refine⟨_,(Zc (Zl (i:=1) Z6.nd rfl (Or.inl rfl) (Zm Zb4 Zg (Zj Z0 (hr.mono (by decide)) rfl ZN (Za (pv 0) (Za Zg Zb)))))
   (Zc (Zl (i:=2) Z6.nd rfl (Or.inl rfl) Zaa)
   (Zc (Za1 (Zfo PassesOwn.never (Zs ZeQ (Zi Zkz rfl T.b_len Yq (Za (pv 2) Zb)) (Zm Z1 Zg (pv 1)) (Zw _)) (Zc (Zl (i:=3) Z6.nd rfl (Or.inl rfl) (Zm ZbK (Zcy PySem.F.plainAttrs_str PySem.F.slot_str_count PySem.F.type_str_count Zev (pv 2) (Za Zaa Zb)) (Zcy PySem.F.plainAttrs_str PySem.F.slot_str_count PySem.F.type_str_count Zev (pv 2) (Za Zaa Zb))))
   (Ze (Zaj (PW.pt (ZiK (Zs ZeQ (Zcy PySem.F.plainAttrs_str PySem.F.slot_str_count PySem.F.type_str_count Zev (pv 2) (Za Zaa Zb)) (pv 1) (Zw _)) (Zg9 (PW.pt (Zgu (Zs ZeP (pv 3) Zg (Zw _)) (Zfn (Zs ZeP (Zj Z0 (hr.mono (by decide)) rfl ZN (Za (pv 0) (Za Zg Zb))) Zg (Zw _)))))))) (Ze (Zl (i:=2) Z6.nd rfl (Or.inl rfl) (Zm Zb5 (pv 2) Zaa))) (Ze (Zl (i:=2) Z6.nd rfl (Or.inl rfl) (Zm Zb5 (pv 2) Zaa))))))))
   (Ze (ZA (pv 2)))))),?_⟩
 walk_at "rd"
 refine⟨p,_,rfl,by decide,by decide,hP,λd H1 d0 d1 P1 e1=>⟨d,rfl,?_⟩⟩
 obtain⟨m,rfl⟩:=Ja d0
 have em:(5+(m:Int))=((5+m:Nat):Int):=by omega
 rw[em]
 have hM8:5+m<=8:=by omega
 revert hM8
 generalize 5+m=M
 intro hM8
 refine Zhn (2*M) (λi σ Hx=>∃(l:List Nat) (v3:Option V),σ=[some (.ref p),some (.int (M:Nat)),some (.str (txt l)),v3]/\l.length=i/\(∀c∈l,c=40\/c=41)/\(∀j,j<=l.length->0<=Zd8 (l.take j))/\l.count 40<=M/\Zdi Hx p/\Exc p H Hx) ⟨[],none,rfl,rfl,(λc hc=>nomatch hc),(λj hj=>by simp[Zd8]),by simp,P1,e1⟩ ?_
 rintro i σ Hx hi ⟨l,v3,rfl,hl,hc,hb,h40,P2,e2⟩
 have hcl:=ZjZ l hc
 have hb0:=hb l.length (Yd _)
 rw[List.take_length]at hb0
 have hbal:Zd8 l=(l.count 40:Int)-(l.count 41:Int):=rfl
 have put:∀(c:Nat) (v:V) (Hy:Hp),i<2*M->(c=40/\l.count 40<M\/c=41/\0<Zd8 l)->Zdi Hy p->Exc p H Hy->i+1<=2*M/\∃(l':List Nat) (v3:Option V),[some (V.ref p),some (.int (M:Nat)),some (.str (txt (l++[c]))),some v]=[some (V.ref p),some (.int (M:Nat)),some (.str (txt l')),v3]/\l'.length=i+1/\(∀c∈l',c=40\/c=41)/\(∀j,j<=l'.length->0<=Zd8 (l'.take j))/\l'.count 40<=M/\Zdi Hy p/\Exc p H Hy:=λc v Hy h1 h2 P3 e3=>by
  have h3:0<=Zd8 (l++[c]):=by
   rcases h2 with⟨rfl,_⟩|⟨rfl,h⟩
   ·simp only[Zd8,List.count_append]at *;simp;omega
   ·simp only[Zd8,List.count_append]at *;simp;omega
  refine⟨by omega,l++[c],_,rfl,by simp;omega,λx hx=>?_,λj hj=>?_,?_,P3,e3⟩
  ·rcases Ys.mp hx with hx|hx
   ·exact hc x hx
   ·rw[YW.mp hx];exact h2.imp (·.1) (·.1)
  ·by_cases hjl:j<=l.length
   ·rw[List.take_append_of_le_length hjl];exact hb j hjl
   ·rw[List.take_of_length_le (by simp at hj⊢;omega)];exact h3
  ·rw[List.count_append]
   rcases h2 with⟨rfl,_⟩|⟨rfl,h⟩
   ·simp;omega
   ·simp;omega
 walk_at "rd"
 simp only[Zd3,Zan,ZkA,cnt_eq,Zd4,Zbc]
 have hs:∀n,n<=1000->n<=sizeLine:=λn hn=>Yn hn (by decide)
 refine⟨hs _ (by omega),ZdT (by decide) (by decide),?_⟩
 split
 case isFalse z =>
  refine k1 l Hx ((Zm8 l).mp ⟨λj hj=>⟨?_,hb (j+1) hj⟩,by omega,by omega⟩) (by omega) P2 e2
  rw[Yg,Yf hj]
  exact hc _ (YV hj)
 case isTrue z =>
  refine⟨_,WI.next,rfl,rfl,rfl,?_⟩
  refine Zbi (λy1=>Zbi (λy2=>?_) λy2=>?_) λy1=>?_
  ·exact⟨hs _ (by simp;omega),put 40 _ Hx (by omega) (.inl ⟨rfl,by omega⟩) P2 e2⟩
  ·refine⟨p,_,rfl,by decide,by decide,P2,λd H2 z0 z1 P3 e3=>⟨rfl,Zbi (λ_=>?_) λ_=>?_⟩⟩
   ·exact⟨hs _ (by simp;omega),put 40 _ H2 (by omega) (.inl ⟨rfl,by omega⟩) P3 (e2.trans e3)⟩
   ·exact⟨hs _ (by simp;omega),put 41 _ H2 (by omega) (.inr ⟨rfl,by omega⟩) P3 (e2.trans e3)⟩
  ·exact⟨hs _ (by simp;omega),put 41 _ Hx (by omega) (.inr ⟨rfl,by omega⟩) P2 e2⟩
theorem Zji {ns ms T:List Int} (h1:Zp ns T) (h2:Zp ms T) {p:Nat} (hp:p<ns.length):Zbb (nth ns) p=Zbb (nth ms) p:=by
 have e:ns.length=ms.length:=h1.1.symm.trans h2.1
 have F2:=Zia h2 (show p<ms.length by omega)
 have hL:∀a∈(Zcz T p).filter λo=>decide (o<(p:Int)),∃o:Nat,a=o/\o<p/\o<ns.length/\Over (nth ns) o p:=λa ha=>by
  obtain⟨h3,h4⟩:=YJ.mp ha
  obtain⟨o,ho,rfl⟩:=YD.mp h3
  have:=(Zh7 h1 hp).mp ho
  have h4:=of_decide_eq_true h4
  exact⟨o,rfl,by omega,this.1,this.2⟩
 rcases Zb7 (nth ns) p with h|⟨r,h⟩
 ·rw[Zca h,F2.1 (List.eq_nil_iff_forall_not_mem.mpr λa ha=>?_)]
  obtain⟨o,_,h3,h4,h5⟩:=hL a ha
  have:=h o h3
  rcases h5 with⟨_,h6⟩|⟨h6,_⟩
  ·have:=h6 p h3 (Yd _);omega
  ·omega
 ·rw[Zam h]
  have hr:(r:Int)∈(Zcz T p).filter λo=>decide (o<(p:Int)):=YJ.mpr ⟨(Zfh h1 hp).mpr ⟨by have:=h.1;omega,h.over⟩,Y2 (by have:=h.1;omega)⟩
  refine F2.2 (List.ne_nil_of_mem hr) _ hr λa ha=>?_
  obtain⟨o,rfl,h3,h4,h5⟩:=hL a ha
  by_cases z:r<o
  ·have:=h.2.2 o z h3
   rcases h5 with⟨_,h6⟩|⟨h6,_⟩
   ·have:=h6 p h3 (Yd _);omega
   ·omega
  ·omega
theorem Ziu {ns ms T:List Int} (h1:Zp ns T) (h2:Zp ms T):Zdj ns=Zdj ms:=by
 have e:ns.length=ms.length:=h1.1.symm.trans h2.1
 unfold Zdj
 rw[<-e]
 refine List.map_congr_left λp hp=>?_
 unfold ZaX
 rw[Zji h1 h2 (Yr.mp hp)]
theorem ZeU:∀{a b:List Int},a.map V.int=b.map V.int->a=b
 |[],[],_=>rfl
 |[],_::_,h=>by cases h
 |_::_,[],h=>by cases h
 |x::a,y::b,h=>by
  have h1:=List.cons.inj h
  rw[V.int.inj h1.1,ZeU h1.2]
theorem Tells.inj {way:Int}{k k' T:List Int} (hw:way=0\/way=1\/way=2) (h:Tells way k T) (h':Tells way k' T):k=k':=by
 obtain⟨ns,a1,_,a2,a3,a4⟩:=h
 obtain⟨ms,b1,_,b2,b3,b4⟩:=h'
 rcases hw with z|z|z
 ·exact ZeU (by rw[<-a2 z,<-b2 z,Zce a1 b1])
 ·rw[<-a3 z,<-b3 z,Ziu a1 b1]
 ·rw[<-a4 z,<-b4 z,Zce a1 b1]
theorem Tells.good {way:Int}{k T:List Int} (h:Tells way k T):ZdX T:=by
 obtain⟨ns,a1,a2,_⟩:=h
 exact⟨by have:=a1.1;omega,ns,a1⟩
noncomputable def ZM (m:Nat):List (List Int):=(List.range (5 ^ m)).map (Zer 5 m)
noncomputable def Zj0 (m c:Nat):List Nat:=(List.range (2*m)).map λk=>if c / 2 ^ k % 2=1 then 41 else 40
noncomputable def Za6 (m:Nat):List (List Nat):=(List.range (2 ^ (2*m))).map (Zj0 m)
noncomputable def ZaH (m w:Nat):List (List Int):=if w=2 then (Za6 m).map λl=>l.map λ(c:Nat)=>(c:Int)else ZM m
noncomputable def ZhC (ds:List Int):Bool:=decide (ds.length<=40)&&(List.range ds.length).all λp=>decide (0<=nth ds p)&&decide (nth ds p<=(p:Int)-(ds.take p).sum)
noncomputable def ZlU (ds:List Int):Bool:=decide (ds.length<=40)&&(List.range ds.length).all λp=>decide (0<=nth ds p)&&decide (nth ds p<=(p:Int))&&(decide (nth ds p<=0)||(List.range p).all λk=>decide ((k:Int)<=(p:Int)-nth ds p)||(decide (0<nth ds k)&&decide (nth ds k<=(k:Int)-((p:Int)-nth ds p))))
noncomputable def okB (l:List Nat):Bool:=l.all (λc=>decide (c=40)||decide (c=41))&&ZhC ((l.foldl Zo ([],0)).1.map λ(d:Nat)=>(d:Int))&&decide ((l.foldl Zo ([],0)).1.sum+(l.foldl Zo ([],0)).2=(l.foldl Zo ([],0)).1.length)
noncomputable def ZfT (w:Nat) (k:List Int):Bool:=if w=0 then ZhC k else if w=1 then ZlU k else okB (k.map Int.toNat)
theorem Zcl (ds:List Int):ZhC ds=true↔ZS ds:=by
 unfold ZhC ZS
 simp only[Bool.and_eq_true,decide_eq_true_eq,List.all_eq_true,Yr]
theorem ZkP (ds:List Int):ZlU ds=true↔Zd7 ds:=by
 unfold ZlU Zd7
 simp only[Bool.and_eq_true,Bool.or_eq_true,decide_eq_true_eq,List.all_eq_true,Yr]
 refine and_congr_right λ_=>forall_congr' λp=>imp_congr_right λ_=>?_
 rw[and_assoc]
 refine and_congr_right λ_=>and_congr_right λ_=>⟨λh h0 k h1 h2=>?_,λh=>?_⟩
 ·rcases h with h|h
  ·omega
  ·rcases h k h2 with h|h
   ·omega
   ·exact h
 ·by_cases z:nth ds p<=0
  ·exact .inl z
  ·refine .inr λk hk=>?_
   by_cases y:(k:Int)<=(p:Int)-nth ds p
   ·exact .inl y
   ·exact .inr (h (by omega) k (by omega) hk)
theorem Zm9 (l:List Nat):okB l=true↔OkB l:=by
 unfold okB OkB
 simp only[Bool.and_eq_true,Bool.or_eq_true,decide_eq_true_eq,List.all_eq_true,Zcl,and_assoc]
theorem ZgZ {w:Nat} (hw:w<3) (k:List Int):ZfT w k=true↔Fine (w:Int) k:=by
 unfold ZfT Fine
 have:w=0\/w=1\/w=2:=by omega
 rcases this with rfl|rfl|rfl
 ·rw[Yc rfl,Zcl]
  exact⟨λh=>⟨λ_=>h,(λz=>by cases z),λz=>by cases z⟩,λh=>h.1 rfl⟩
 ·rw[Yb (by decide),Yc rfl,ZkP]
  exact⟨λh=>⟨(λz=>by cases z),(λ_=>h),λz=>by cases z⟩,λh=>h.2.1 rfl⟩
 ·rw[Yb (by decide),Yb (by decide),Zm9]
  exact⟨λh=>⟨(λz=>by cases z),(λz=>by cases z),λ_=>h⟩,λh=>h.2.2 rfl⟩
noncomputable def Zjj (m w:Nat):List (List Int):=(ZaH m w).filter (ZfT w)
theorem ZkQ:∀m,m<6->∀w,w<3->((Zjj m w).length:Int)=nth ZQ m/\(Zjj m w).Nodup:=by decide +kernel
noncomputable def ZeC (m:Nat):List (List Int):=(Zjj m 0).map λk=>Za9 (k.map Int.toNat)
noncomputable def Zba (m:Nat):List (List Int):=(ZM m).map λk=>k.map λx=>x-1
theorem ZlV:∀m,m<5->(((Zba m).filter λt=>(ZeC m).contains t).length:Int)=nth ZQ m:=by decide +kernel
theorem Zg0:∀(m:Nat) (k:List Int),k.length=m->(∀x∈k,0<=x/\x<5)->∃c,c<5 ^ m/\Zer 5 m c=k
 |0,[],_,_=>⟨0,by decide,rfl⟩
 |m+1,x::k,hl,h=>by
  obtain⟨c,hc,e⟩:=Zg0 m k (by simpa using hl) λy hy=>h y (YK _ hy)
  have hx:=h x (YM ..)
  obtain⟨d,rfl⟩:=Ja hx.1
  have hd:d<5:=by omega
  refine⟨d+5*c,by rw[Nat.pow_succ];omega,?_⟩
  unfold Zer at *
  rw[List.range_succ_eq_map,YC,YU,<-e]
  congr 1
  ·rw[Nat.pow_zero,Nat.div_one];omega
  ·refine List.map_congr_left λj _=>?_
   show(((d+5*c) / 5 ^ (j+1) % 5:Nat):Int)=_
   rw[Nat.pow_succ,Nat.mul_comm (5 ^ j) 5,<-Nat.div_div_eq_div_mul,show(d+5*c) / 5=c by omega]
theorem Ziv {m:Nat} (hm:m<6) {t:List Int} (ht:t.length=m):ZdX t↔(ZeC m).contains t=true:=by
 rw[List.contains_iff_mem]
 constructor
 ·rintro⟨h40,ns,hT⟩
  have hD:=ZgN (nth ns) ns.length
  have hn:ns.length=m:=by have:=hT.1;omega
  let k:List Int:=(Zu (nth ns) ns.length).map λ(d:Nat)=>(d:Int)
  have ek:k.map Int.toNat=Zu (nth ns) ns.length:=by simp[k,Function.comp_def]
  have lk:k.length=m:=by simp[k,ZY,hn]
  have hA:ZS k:=by
   refine(ZaB k).mpr ⟨by omega,λp hp=>?_⟩
   have:=hD p (by rw[ZY];omega)
   rw[ek]
   have e:nth k p=(((Zu (nth ns) ns.length).getD p 0:Nat):Int):=by
    simp only[k,nth,Yg,YB]
    cases(Zu (nth ns) ns.length)[p]?<;>rfl
   rw[e]
   exact⟨by omega,by simpa using this⟩
  obtain⟨c,hc,e⟩:=Zg0 m k lk λx hx=>by
   obtain⟨j,hj,rfl⟩:=Y3 hx
   have h1:=((ZaB k).mp hA).2 j hj
   have h2:=Zfv (k.map Int.toNat) j
   have e:nth k j=k[j]:=by simp[nth,Yg,hj]
   rw[e]at h1
   omega
  obtain⟨ms,hS,hd,_,_⟩:=Zbp hA
  refine YD.mpr ⟨k,YJ.mpr ⟨?_,(Zcl k).mpr hA⟩,ZfA hS hT (by rw[hd,ek])⟩
  exact YD.mpr ⟨c,Yr.mpr hc,e⟩
 ·intro h
  obtain⟨k,hk,rfl⟩:=YD.mp h
  obtain⟨ms,hS,hd,_,h40⟩:=Zbp ((Zcl k).mp (YJ.mp hk).2)
  exact⟨h40,ms,hS⟩
theorem bit1 (x:Nat):Builtin.bitAnd (x:Int) 1=((x % 2:Nat):Int):=by
 have h:=Nat.and_two_pow_sub_one_eq_mod x 1
 unfold Builtin.bitAnd
 rw[show decide ((0:Int)<=(x:Int))=true from by simp,show decide ((0:Int)<=1)=true from rfl]
 show((((x:Int).toNat &&& (1:Int).toNat:Nat)):Int)=_
 rw[show(x:Int).toNat=x by omega,show(1:Int).toNat=2 ^ 1-1 from rfl,h]
theorem Zb1 (m:Nat):(ZM m).length=5 ^ m:=by simp[ZM]
theorem ZkR (m:Nat):(Za6 m).length=2 ^ (2*m):=by simp[Za6]
theorem pow5:∀m,m<=5->5 ^ m<=3125:=λm h=>Yn (Nat.pow_le_pow_right (by decide) h) (by decide)
theorem pow4:∀m,m<=5->2 ^ (2*m)<=1024:=λm h=>Yn (Nat.pow_le_pow_right (by decide) (show 2*m<=10 by omega)) (by decide)
theorem ZfU (f:Nat->Nat):∀l:List Nat,(l.map λk=>[f k]).flatten=l.map f
 |[]=>rfl
 |x::l=>by rw[YC,List.flatten_cons,ZfU f l];rfl
noncomputable def ZhD:Option Addr->V
 |none=>.non
 |some a=>.ref a
noncomputable def ZeD (w:Nat) (ks Ts:List (List Int)):Prop:=ks.length=Ts.length/\∀j (h1:j<ks.length) (h2:j<Ts.length),Tells (w:Int) ks[j] Ts[j]
noncomputable def ZeV (H:Hp) (as:List Addr) (Ts:List (List Int)):Prop:=as.length=Ts.length/\∀j (h1:j<as.length) (h2:j<Ts.length),H as[j]=some (.tup (Ts[j].map V.int))
theorem ZeD.push {w:Nat}{ks Ts:List (List Int)}{k T:List Int} (h:ZeD w ks Ts) (t:Tells (w:Int) k T):ZeD w (ks++[k]) (Ts++[T]):=by
 refine⟨by simp[h.1],λj h1 h2=>?_⟩
 by_cases e:j<ks.length
 ·rw[Jb e,Jb (by have:=h.1;omega)];exact h.2 j e _
 ·have:j=ks.length:=by simp at h1;omega
  subst this
  simp only[h.1,List.getElem_concat_length]
  exact t
theorem ZeV.push {H:Hp}{as:List Addr}{Ts:List (List Int)}{a:Addr}{T:List Int} (h:ZeV H as Ts) (t:H a=some (.tup (T.map V.int))):ZeV H (as++[a]) (Ts++[T]):=by
 refine⟨by simp[h.1],λj h1 h2=>?_⟩
 by_cases e:j<as.length
 ·rw[Jb e,Jb (by have:=h.1;omega)];exact h.2 j e _
 ·have:j=as.length:=by simp at h1;omega
  subst this
  simp only[h.1,List.getElem_concat_length]
  exact t
theorem ZeV.same {H H':Hp}{as:List Addr}{Ts:List (List Int)} (h:ZeV H as Ts) (s:Zf H H'):ZeV H' as Ts:=⟨h.1,λj h1 h2=>s _ _ (h.2 j h1 h2)⟩
theorem ZeD.nodup {w:Nat} (hw:w<3) {ks Ts:List (List Int)} (h:ZeD w ks Ts) (nd:ks.Nodup):Ts.Nodup:=by
 refine List.pairwise_iff_getElem.mpr λi j hi hj hij z=>?_
 have h1:=h.2 i (by rw[h.1];exact hi) hi
 have h2:=h.2 j (by rw[h.1];exact hj) hj
 rw[<-z]at h2
 have:=h1.inj (by omega) h2
 exact List.pairwise_iff_getElem.mp nd i j (by rw[h.1];exact hi) (by rw[h.1];exact hj) hij this
theorem ZfV (b m c:Nat):(Zer b m c).length=m:=by simp[Zer]
theorem ZlW (m c:Nat):(Zj0 m c).length=2*m:=by simp[Zj0]
theorem Zna {H:Hp}{m w:Nat}{cl tl:Addr} (hm:m<=5) (hw:w<3) (hcl:TupsAt H cl (ZM m)) (htl:H tl=some (.lst (((Za6 m).map txt).map V.str))):∃(a:Addr) (xs:List V),atI [V.ref cl,V.ref cl,V.ref tl] (0+(w:Int))=some (.ref a)/\H a=some (.lst xs)/\xs.length=(ZaH m w).length/\(ZaH m w).length<=3125/\∀i (h1:i<xs.length) (h2:i<(ZaH m w).length) Hy,Zf H Hy->Said Hy (w:Int) xs[i] (ZaH m w)[i]:=by
 have hp5:=pow5 m hm
 have hp4:=pow4 m hm
 have low:∀w:Nat,(w=0\/w=1)->∃xs:List V,H cl=some (.lst xs)/\xs.length=(ZaH m w).length/\(ZaH m w).length<=3125/\∀i (h1:i<xs.length) (h2:i<(ZaH m w).length) Hy,Zf H Hy->Said Hy (w:Int) xs[i] (ZaH m w)[i]:=λw hw=>by
  obtain⟨as,h1,h2,h3⟩:=hcl
  have es:ZaH m w=ZM m:=by unfold ZaH;rw[Yb (by omega)]
  simp only[es]
  refine⟨_,h1,by rw[Yh,h2],by rw[Zb1];exact hp5,λi i1 i2 Hy s=>.inl ⟨by omega,as[i]'(by simpa using i1),by rw[List.getElem_map],s _ _ (h3 i (by simpa using i1) i2),?_⟩⟩
  simp only[ZM,List.getElem_map,ZfV]
  omega
 have:w=0\/w=1\/w=2:=by omega
 rcases this with rfl|rfl|rfl
 ·obtain⟨xs,h⟩:=low 0 (.inl rfl)
  exact⟨cl,xs,rfl,h⟩
 ·obtain⟨xs,h⟩:=low 1 (.inr rfl)
  exact⟨cl,xs,rfl,h⟩
 ·refine⟨tl,_,rfl,htl,?_⟩
  have es:ZaH m 2=(Za6 m).map λl=>l.map λ(c:Nat)=>(c:Int):=rfl
  simp only[es]
  refine⟨by simp,by rw[Yh,ZkR];omega,λi i1 i2 Hy s=>.inr ⟨rfl,(Za6 m)[i]'(by simpa using i2),by simp,by simp,λc hc=>?_,?_⟩⟩
  ·have:∀l∈Za6 m,∀c∈l,c<128:=λl hl c hc=>by
    obtain⟨k,_,rfl⟩:=YD.mp hl
    obtain⟨j,_,rfl⟩:=YD.mp hc
    split<;>decide
   exact this _ (YV _) c hc
  ·have:∀l∈Za6 m,l.length<=10:=λl hl=>by
    obtain⟨k,_,rfl⟩:=YD.mp hl
    rw[ZlW];omega
   exact this _ (YV _)
theorem Ze9 {f:Addr}{fd:FuncData} (F:Fun K "_law_counted" "_law_counted" ZP f fd) (ZaP:Callee P w K mg base "is_tree" 3 ["tree"] (Zcf K mg)) (ZbN:Callee P w K mg base "_law_digits" 1 ["code","base","many"] (Zbn K mg)) (Zcm:Callee P w K mg base "_law_power" 1 ["base","many"] (ZbM K mg)) (ZcO:Callee P w K mg base "_law_many" 1 ["many"] (Zci K mg)) (ZdB:Callee P w K mg base "_law_led" 4 ["way","told"] (ZcL K mg)) (T:Txt K mg):FnOk P w K mg base (CXE P w) 5 f fd ["many"] (Za5 K mg):=by
 refine F.okX Zz (λvs H Q E h=>?_) (λcdv A outer s H vs Q E hr h=>?_)
 ·obtain⟨m,rfl,_⟩:=h;rfl
 obtain⟨m,rfl,hm,k1⟩:=h
 refine⟨_,(Zc (ZbZ (i:=1) ["code","many"] [none,some 0] Zz.nd rfl (Or.inl rfl) rfl rfl rfl (ZF rfl T.b_range (Za (Zj Zcm (hr.mono (by decide)) rfl ZN (Za Zg (Za (pv 0) Zb))) Zb)) (λ_ _ _ _ _=>(Zq (i:=0) (show(["code","many"]:List Str).Nodup from by decide +kernel) rfl (Or.inl rfl))) (λ_ _ _ _ _=>Zac) (λ_ _ _ _ _=>(Zj ZbN (hr.mono (by decide)) rfl ZN (Za (pv 0) (Za Zg (Za (pv 1) Zb))))) ZC)
   (Zc (ZbZ (i:=2) ["code","many"] [none,some 0] Zz.nd rfl (Or.inl rfl) rfl rfl rfl (ZF rfl T.b_range (Za (Zm op_shl Zg (Zm Z1 Zg (pv 0))) Zb)) (λ_ _ _ _ _=>(Zq (i:=0) (show(["code","many"]:List Str).Nodup from by decide +kernel) rfl (Or.inr rfl))) (λ_ _ _ _ _=>Zac) (λ_ _ _ _ _=>(pe_bmE (K:=K) rfl PySem.F.plainAttrs_str PySem.F.slot_str_join PySem.F.type_str_join (ZjP (K:=K) rfl) Zaa (Za (ZaW ["k","code"] [none,some 0] rfl rfl rfl (ZF rfl T.b_range (Za (Zm Z1 Zg (pv 1)) Zb)) (λ_ _ _ _ _=>(Zq (i:=0) (show(["k","code"]:List Str).Nodup from by decide +kernel) rfl (Or.inl rfl))) (λ_ _ _ _ _=>Zac) (λ_ _ _ _ _=>(Za8 (r:=rIxS) ix_str Zaa (Zm op_and (Zm op_shr (pv 1) (pv 0)) Zg) (λ_ _=>rfl))) ZC) Zb))) ZC)
   (Zc (Zl (i:=3) Zz.nd rfl (Or.inl rfl) (Zj ZcO (hr.mono (by decide)) rfl ZN (Za (pv 0) Zb)))
   (Zc (Za1 (Za0 PassesOwn.never rfl (ZF rfl T.b_range (Za Zg Zb)) (Zq (i:=4) Zz.nd rfl (Or.inr rfl)) (Zc (ZbZ (i:=5) ["told","way"] [none,some 4] Zz.nd rfl (Or.inl rfl) rfl rfl rfl (Zbx (Za8 Zhd (Zlk (Za (pv 1) (Za (pv 1) (Za (pv 2) Zb)))) (pv 4) (λ_ _=>rfl))) (λ_ _ _ _ _=>(Zq (i:=0) (show(["told","way"]:List Str).Nodup from by decide +kernel) rfl (Or.inl rfl))) (λ_ _ _ _ _=>Zac) (λ_ _ _ _ _=>(Zj ZdB (hr.mono (by decide)) rfl ZN (Za (pv 1) (Za (pv 0) Zb)))) ZC)
   (Zc (ZbZ (i:=5) ["tree"] [none] Zz.nd rfl (Or.inl rfl) rfl rfl rfl (Zbx (pv 5)) (λ_ _ _ _ _=>(Zq (i:=0) (show(["tree"]:List Str).Nodup from by decide +kernel) rfl (Or.inl rfl))) (λ_ _ _ _ _=>ZdQ (Zs ZmM (pv 0) ZiJ (Zw _))) (λ_ _ _ _ _=>(pv 0)) ZC)
   (Ze (Zaj (PW.pt (Zgu (Zs Zgw (Zi (Zk (K:=K) rfl) rfl T.b_len Yq (Za (pv 5) Zb)) (pv 3) (Zw _)) (Zgu (Zs Zgw (Zi Zie rfl T.b_len Yq (Za (Zal (ZkK (K:=K) rfl rfl hr) rfl T.b_set bt_set (Za (pv 5) Zb)) Zb)) (pv 3) (Zw _)) (Zfn (Zek (Zej (Zi (ZlC (K:=K) rfl rfl) rfl T.b_all bt_all (Za (ZaW ["tree"] [none] rfl rfl rfl (Zbx (pv 5)) (λ_ _ _ _ _=>(Zq (i:=0) (show(["tree"]:List Str).Nodup from by decide +kernel) rfl (Or.inl rfl))) (λ_ _ _ _ _=>Zac) (λ_ _ _ _ _=>(Zj ZaP (hr.mono (by decide)) rfl ZN (Za (pv 0) Zb))) ZC) Zb)))))))) (Ze (ZA Zfm)) ZK))))))
   (Zc (Zaj (Zs ZeP (pv 0) Zg (Zw _)) (Ze (ZA Zfm)) ZK)
   (Zc (ZbZ (i:=6) ["digits"] [none] Zz.nd rfl (Or.inl rfl) rfl rfl rfl (Zbx (pv 1)) (λ_ _ _ _ _=>(Zq (i:=0) (show(["digits"]:List Str).Nodup from by decide +kernel) rfl (Or.inl rfl))) (λ_ _ _ _ _=>Zac) (λ_ _ _ _ _=>(Zal (ZaI (K:=K) rfl) rfl T.b_tuple Zav (Za (ZaW ["digit"] [none] rfl rfl rfl (ZmW (K:=K) rfl (pv 0)) (λ_ _ _ _ _=>(Zq (i:=0) (show(["digit"]:List Str).Nodup from by decide +kernel) rfl (Or.inl rfl))) (λ_ _ _ _ _=>Zac) (λ_ _ _ _ _=>(Zm ZbK (pv 0) Zg)) ZC) Zb))) ZC)
   (Ze (ZA (Zfe ZeP (Zi (Zk (K:=K) rfl) rfl T.b_len Yq (Za (ZaW ["told"] [none] rfl rfl rfl (Zbx (pv 6)) (λ_ _ _ _ _=>(Zq (i:=0) (show(["told"]:List Str).Nodup from by decide +kernel) rfl (Or.inl rfl))) (λ_ _ _ _ _=>ZdQ (Zej (Zj ZaP (hr.mono (by decide)) rfl ZN (Za (pv 0) Zb)))) (λ_ _ _ _ _=>(pv 0)) ZC) Zb)) (pv 3) (Zw _)))))))))),?_⟩
 have hp5:=pow5 m hm
 have hp4:=pow4 m hm
 have n5:(0:Int)<=((5 ^ m:Nat):Int):=Int.natCast_nonneg _
 have n4:(0:Int)<=((2 ^ (2*m):Nat):Int):=Int.natCast_nonneg _
 refine ZdY (fun σ Hx=>∃cl:Addr,σ=[some (.int m),some (.ref cl),none,none,none,none,none]/\TupsAt Hx cl (ZM m)/\Zf H Hx) (λR hR=>?_) ?_
 ·walk_at "rd"
  refine⟨5,m,rfl,by decide,by omega,_,rfl,by omega,by omega,?_⟩
  rw[show((5 ^ m:Nat):Int).toNat=5 ^ m by omega]
  refine ZcE (n:=5 ^ m) (λk acc Hz=>∃as:List Addr,acc=as.map V.ref/\as.length=k/\(∀z (h:z<as.length),Hz as[z]=some (.tup ((Zer 5 m z).map V.int)))/\Zf H Hz) (YE (show _<=3125 by omega) (by decide)) ⟨[],rfl,rfl,(λi h=>absurd h (by simp)),Zf.refl _⟩ (λk acc Hz _ hk=>hk) (λacc Hz _=>Yd _) ?_ ?_
  ·rintro k x acc Hz Hw hk hla ⟨as,rfl,hal,has,sz⟩ ⟨rfl,rfl⟩
   have e3:(0+(k:Int))=k:=by omega
   rw[e3]
   walk_at "rd"
   refine⟨k,5,m,rfl,by decide,by decide,by omega,by omega,λu H3 s3 hu=>CA.take hk hla ⟨as++[u],by simp,by simp[hal],λz h=>?_,sz.trans s3⟩⟩
   by_cases e:z<as.length
   ·rw[Jb e];exact s3 _ _ (has z e)
   ·have:z=as.length:=by simp at h;omega
    subst this
    simp only[List.getElem_concat_length]
    rw[hu,hal]
  ·rintro c acc Hz ⟨as,rfl,hal,has,sz⟩ _ hc
   have g:=sz.ZL (o:=.lst (as.map V.ref)) hc
   refine hR _ _ ⟨c,rfl,⟨as,Zd,by rw[Zb1,hal],λi h1 h2=>?_⟩,g⟩
   rw[((Zf.refl Hz).ZL (o:=.lst (as.map V.ref)) hc) _ _ (has i h1)]
   simp[ZM]
 rintro σ H1 ⟨cl,rfl,hcl,s1⟩
 refine ZdY (fun σ Hx=>∃tl:Addr,σ=[some (.int m),some (.ref cl),some (.ref tl),none,none,none,none]/\Hx tl=some (.lst (((Za6 m).map txt).map V.str))/\TupsAt Hx cl (ZM m)/\Zf H Hx) (λR hR=>?_) ?_
 ·walk_at "rd"
  have e2:(1*2 ^ (2*(m:Int)).toNat:Int)=((2 ^ (2*m):Nat):Int):=by
   rw[show(2*(m:Int)).toNat=2*m by omega,Int.one_mul];simp
  rw[e2]
  refine⟨ZdT (by decide) (by decide),⟨by omega,by omega,by decide⟩,by omega,by omega,?_⟩
  rw[show((2 ^ (2*m):Nat):Int).toNat=2 ^ (2*m) by omega]
  refine comp_map (n:=2 ^ (2*m)) (λc=>V.str (txt (Zj0 m c))) (YE (show _<=3125 by omega) (by decide)) (λj Hz _ hj=>hj) (λHz _=>Yd _) ?_ ?_
  ·rintro c x Hz Hz' hj sz ⟨rfl,rfl⟩
   walk_at "rd"
   refine⟨rfl,ZdT (by decide) (by decide),by omega,by omega,?_⟩
   rw[show(2*(m:Int)).toNat=2*m by omega]
   refine comp_map (n:=2*m) (λk=>V.str (txt [if c / 2 ^ k % 2=1 then 41 else 40])) (YE (show _<=1000 by omega) (by decide)) (λj Hz _ hj=>hj) (λHz _=>Yd _) ?_ ?_
   ·rintro k x Hy Hy' hk sy ⟨rfl,rfl⟩
    walk_at "rd"
    have e4:((0+(c:Int)) / 2 ^ (0+(k:Int)).toNat)=((c / 2 ^ k:Nat):Int):=by
     rw[show(0+(k:Int)).toNat=k by omega,show(0+(c:Int))=c by omega];simp
    rw[e4,bit1]
    refine⟨by omega,by decide,?_⟩
    have h01:c / 2 ^ k % 2=0\/c / 2 ^ k % 2=1:=by omega
    rcases h01 with z|z
    ·rw[z];exact⟨40,by decide,CW.next hk (by show V.str (txt [40])=V.str (txt [if c / 2 ^ k % 2=1 then 41 else 40]);rw[z];rfl) sy⟩
    ·rw[z];exact⟨41,by decide,CW.next hk (by show V.str (txt [41])=V.str (txt [if c / 2 ^ k % 2=1 then 41 else 40]);rw[z];rfl) sy⟩
   ·intro q Hy sy hq
    walk_at "rd"
    refine⟨((List.range (2*m)).map λk=>[if c / 2 ^ k % 2=1 then 41 else 40]).map txt,SqL.of (by rw[Zd];simp[YU,Function.comp_def]),Zfy (by rw[ZfU,Yh,Y0];omega),CW.next hj ?_ ((sz.trans sy).ZL hq)⟩
    rw[Zeu,ZfU]
    rfl
  ·intro q Hz sz hq
   refine hR _ _ ⟨q,rfl,?_,(hcl.same sz).same ((Zf.refl Hz).ZL hq),s1.trans (sz.ZL hq)⟩
   rw[Zd]
   simp[Za6,YU,Function.comp_def]
 clear s1 hcl H1
 rintro σ H1 ⟨tl,rfl,htl,hcl,s1⟩
 refine ZdY (fun σ Hx=>σ=[some (.int m),some (.ref cl),some (.ref tl),some (.int (nth ZQ m)),none,none,none]/\Hx tl=some (.lst (((Za6 m).map txt).map V.str))/\TupsAt Hx cl (ZM m)/\Zf H Hx) (λR hR=>?_) ?_
 ·walk_at "rd"
  exact⟨m,rfl,hm,λH2 s2=>hR _ _ ⟨rfl,s2 _ _ htl,hcl.same s2,s1.trans s2⟩⟩
 clear s1 hcl htl H1
 rintro σ H1 ⟨rfl,htl,hcl,s1⟩
 refine ZdY (fun σ Hx=>∃v4 v5,σ=[some (.int m),some (.ref cl),some (.ref tl),some (.int (nth ZQ m)),v4,v5,none]/\TupsAt Hx cl (ZM m)/\Zf H Hx) (λR hR=>?_) ?_
 ·walk_at "rd"
  refine⟨by decide,by decide,Zak (λi σ Hx=>∃v4 v5,σ=[some (.int m),some (.ref cl),some (.ref tl),some (.int (nth ZQ m)),v4,v5,none]/\Hx tl=some (.lst (((Za6 m).map txt).map V.str))/\TupsAt Hx cl (ZM m)/\Zf H Hx) ⟨_,_,rfl,htl,hcl,s1⟩ ?_ fun σ Hx ⟨v4,v5,e,_,h2,h3⟩=>hR _ _ ⟨v4,v5,e,h2,h3⟩⟩
  clear s1 hcl htl H1
  rintro w0 σ H1 hw ⟨v4,v5,rfl,htl,hcl,s1⟩
  walk_at "rd"
  refine⟨by decide,λq hq=>⟨_,SqT.of Zd,?_⟩⟩
  have g0:=(Zf.refl H1).ZL (o:=.tup [V.ref cl,V.ref cl,V.ref tl]) hq
  have htl2:=g0 _ _ htl
  have hcl2:=hcl.same g0
  have s2:=s1.trans g0
  generalize upd H1 q (.tup [V.ref cl,V.ref cl,V.ref tl])=H2 at *
  obtain⟨a,xs,hat,hxs,hxl,hL,hsaid⟩:=Zna hm hw hcl2 htl2
  obtain⟨hcount,hnd⟩:=ZkQ m (by omega) w0 hw
  obtain⟨L,eL⟩:∃L,L=(ZaH m w0).length:=⟨_,rfl⟩
  rw[<-eL]at hxl hL
  refine⟨_,hat,a,rfl,⟨_,SqL.of hxs⟩,?_⟩
  have hsL:L<sizeLine:=YE hL (by decide)
  refine ZcE (n:=L) (λk acc Hz=>∃(res:List (Option Addr)) (Ts:List (List Int)),acc=res.map ZhD/\res.length=k/\ZeD w0 (((ZaH m w0).take k).filter (ZfT w0)) Ts/\ZeV Hz (res.filterMap id) Ts/\Zf H2 Hz) hsL ⟨[],[],rfl,rfl,⟨rfl,λj h1=>absurd h1 (by simp)⟩,⟨rfl,λj h1=>absurd h1 (by simp)⟩,Zf.refl _⟩ (λk acc Hz ⟨_,_,_,_,_,_,e⟩ hk=>⟨_,_,SqL.of (e _ _ hxs),Yf (by omega)⟩) (λacc Hz ⟨_,_,_,_,_,_,e⟩=>⟨_,SqL.of (e _ _ hxs),by omega⟩) ?_ ?_
  ·rintro k x acc Hz Hw hk hla ⟨res,Ts,rfl,hrl,hte,htu,sz⟩ ⟨rfl,hx⟩
   have ex:=hx _ (SqL.of (sz _ _ hxs))
   rw[Yf (by omega)]at ex
   cases ex
   have hkl:k<(ZaH m w0).length:=by omega
   have hS:=hsaid k (by omega) hkl _ sz
   have etk:((ZaH m w0).take (k+1)).filter (ZfT w0)=((ZaH m w0).take k).filter (ZfT w0)++[(ZaH m w0)[k]].filter (ZfT w0):=by
    rw[YO,Yf hkl,List.filter_append];rfl
   walk_at "rd"
   rw[show(0+(w0:Int))=w0 by omega]
   refine⟨_,_,_,rfl,hS,λhf u T H3 s3 hT hu=>CA.take hk hla ⟨res++[some u],by simp[ZhD],by simp[hrl],Ts++[T],?_,?_,sz.trans s3⟩,λhf H3 s3=>CA.take hk hla ⟨res++[none],by simp[ZhD],by simp[hrl],Ts,?_,?_,sz.trans s3⟩⟩
   ·rw[etk,List.filter_cons_of_pos ((ZgZ hw _).mpr hf)]
    exact hte.push hT
   ·rw[List.filterMap_append]
    exact(htu.same s3).push hu
   ·rw[etk,List.filter_cons_of_neg (λz=>hf ((ZgZ hw _).mp z)),List.filter_nil,List.append_nil]
    exact hte
   ·rw[List.filterMap_append]
    simpa using htu.same s3
  rintro b acc Hz ⟨res,Ts,rfl,hrl,hte,htu,sz⟩ _ hb
  rw[List.take_of_length_le (by omega)]at hte
  have g1:=sz.ZL (o:=.lst (res.map ZhD)) hb
  have htu2:=htu.same ((Zf.refl Hz).ZL (o:=.lst (res.map ZhD)) hb)
  have hb2:(upd Hz b (.lst (res.map ZhD))) b=some (.lst (res.map ZhD)):=Zd
  generalize upd Hz b (.lst (res.map ZhD))=H3 at *
  refine⟨b,rfl,⟨_,SqL.of hb2⟩,?_⟩
  refine ZcE (n:=L) (λk acc Hy=>acc=((res.take k).filterMap id).map V.ref/\Zf H3 Hy) hsL ⟨rfl,Zf.refl _⟩ (λk acc Hy ⟨_,e⟩ hk=>⟨_,_,SqL.of (e _ _ hb2),Yf (by simp;omega)⟩) (λacc Hy ⟨_,e⟩=>⟨_,SqL.of (e _ _ hb2),by simp;omega⟩) ?_ ?_
  ·rintro k x acc Hy Hw hk hla ⟨rfl,sy⟩ ⟨rfl,hx⟩
   have ex:=hx _ (SqL.of (sy _ _ hb2))
   rw[YB,Yf (by omega)]at ex
   cases ex
   have etk:res.take (k+1)=res.take k++[res[k]'(by omega)]:=by
    rw[YO,Yf (by omega)];rfl
   walk_at "rd"
   cases e:res[k]'(by omega)with
   |none =>
    rw[Yb (λz=>z rfl)]
    exact CA.skip hk hla ⟨by rw[etk,List.filterMap_append,e];simp,sy⟩
   |some u =>
    rw[Yc (λz=>by cases z)]
    exact CA.take hk hla ⟨by rw[etk,List.filterMap_append,e];simp[ZhD],sy⟩
  rintro c acc Hy ⟨rfl,sy⟩ _ hc
  rw[List.take_of_length_le (by omega)]
  have g2:=sy.ZL (o:=.lst ((res.filterMap id).map V.ref)) hc
  have htu3:=htu2.same g2
  have hc2:(upd Hy c (.lst ((res.filterMap id).map V.ref))) c=some (.lst ((res.filterMap id).map V.ref)):=Zd
  generalize upd Hy c (.lst ((res.filterMap id).map V.ref))=H4 at *
  have hTl:(Ts.length:Int)=nth ZQ m:=by rw[<-hcount,<-hte.1];rfl
  have hT42:nth ZQ m<=42:=(ZfR m).2
  refine⟨c,rfl,_,.inl (SqL.of hc2),?_⟩
  rw[Yb (λz=>z (by rw[Yh,htu3.1];exact hTl))]
  refine⟨c,rfl,Ts,⟨_,hc2,htu3.1,htu3.2⟩,by omega,λd kss hd nd hmem=>⟨kss.length,Zd,?_⟩⟩
  have hkl:kss.length=Ts.length:=((List.perm_ext_iff_of_nodup nd (hte.nodup hw hnd)).mpr hmem).length_eq
  rw[Yb (λz=>z (by rw[hkl];exact hTl))]
  have g3:=(Zf.refl H4).ZL (o:=.ext (ZkB d kss.length)) hd
  have hc3:=g3 _ _ hc2
  have htu4:=htu3.same g3
  generalize upd H4 d (.ext (ZkB d kss.length))=H5 at *
  refine⟨c,rfl,⟨_,SqL.of hc3⟩,?_⟩
  have hal:(res.filterMap id).length=Ts.length:=htu4.1
  have hgood:∀j (h:j<Ts.length),ZdX Ts[j]:=λj h=>(hte.2 j (by rw[hte.1];exact h) h).good
  refine comp_map (n:=Ts.length) (λ_=>V.bl true) (YE (show _<=1000 by omega) (by decide)) (λj Hy s hj=>⟨_,_,SqL.of (s _ _ hc3),Yf (by rw[Yh];omega)⟩) (λHy s=>⟨_,SqL.of (s _ _ hc3),by rw[Yh];omega⟩) ?_ ?_
  ·rintro j x Hx Hw hj sx ⟨rfl,hx⟩
   have ex:=hx _ (SqL.of (sx _ _ hc3))
   rw[YB,Yf (by omega)]at ex
   cases ex
   walk_at "rd"
   exact⟨_,Ts[j],rfl,sx _ _ (htu4.2 j (by omega) hj),by have:=(hgood j hj).1;omega,λ_ H6 s6=>CW.next hj rfl (sx.trans s6),λng=>absurd (hgood j hj) ng⟩
  ·intro l Hx sx hl
   refine⟨l,rfl,List.replicate Ts.length true,SqL.of (by rw[Zd,List.map_replicate,List.map_const',Y0]),?_⟩
   rw[Yb (by simp)]
   have g4:=g1.trans (g2.trans (g3.trans (sx.ZL (o:=.lst ((List.range Ts.length).map λ_=>V.bl true)) hl)))
   exact⟨g4 _ _ htl2,hcl2.same g4,s2.trans g4⟩
 clear s1 hcl htl H1
 rintro σ H1 ⟨v4,v5,rfl,hcl,s1⟩
 walk_at "rd"
 refine Zbi (λ_=>k1 _ s1) λn5'=>?_
 obtain⟨as,hca,hal,hat⟩:=hcl
 rw[Zb1]at hal
 have hs5:5 ^ m<sizeLine:=YE hp5 (by decide)
 have hll:(Zba m).length=5 ^ m:=by simp[Zba,Zb1]
 refine⟨⟨_,SqL.of hca⟩,ZcE (n:=5 ^ m) (λk acc Hz=>∃bs:List Addr,acc=bs.map V.ref/\bs.length=k/\ZeV Hz bs ((Zba m).take k)/\Zf H1 Hz) hs5 ⟨[],rfl,rfl,⟨rfl,λj h1=>absurd h1 (by simp)⟩,Zf.refl _⟩ (λk acc Hz ⟨_,_,_,_,e⟩ hk=>⟨_,_,SqL.of (e _ _ hca),Yf (by rw[Yh];omega)⟩) (λacc Hz ⟨_,_,_,_,e⟩=>⟨_,SqL.of (e _ _ hca),by rw[Yh];omega⟩) ?_ ?_⟩
 ·rintro k x acc Hz Hw hk hla ⟨bs,rfl,hbl,htu,sz⟩ ⟨rfl,hx⟩
  have ex:=hx _ (SqL.of (sz _ _ hca))
  rw[YB,Yf (by omega)]at ex
  cases ex
  have hkc:k<(ZM m).length:=by rw[Zb1];exact hk
  have hak:=sz _ _ (hat k (by omega) hkc)
  walk_at "rd"
  have hkk:((ZM m)[k]).length=m:=by simp[ZM,ZfV]
  have hkl:k<(Zba m).length:=by omega
  have el:(List.range m).map (λj=>V.int (nth (ZM m)[k] j-1))=((Zba m)[k]).map V.int:=by
   rw[show(Zba m)[k]=((ZM m)[k]).map λx=>x-1 by simp[Zba]]
   refine List.ext_getElem (by simp[hkk]) λj h1 h2=>?_
   have hj:j<((ZM m)[k]).length:=by simpa using h2
   simp[nth,Yg,hj]
  refine⟨⟨_,SqT.of hak⟩,comp_map (n:=m) (λj=>V.int (nth (ZM m)[k] j-1)) (YE (show _<=1000 by omega) (by decide)) (λj Hy s hj=>⟨_,_,SqT.of (s _ _ hak),Yf (by rw[Yh,hkk];exact hj)⟩) (λHy s=>⟨_,SqT.of (s _ _ hak),by rw[Yh,hkk];exact Yd _⟩) ?_ ?_⟩
  ·rintro j x Hy Hy' hj sy ⟨rfl,hx⟩
   have ex:=hx _ (SqT.of (sy _ _ hak))
   rw[YB,Yf (by rw[hkk];exact hj)]at ex
   cases ex
   walk_at "rd"
   exact CW.next hj (by simp[nth,Yg,hkk,hj]) sy
  ·intro l Hy sy hl
   rw[el]
   refine⟨l,rfl,_,.inl ⟨SqL.of Zd,λu hu=>CA.take hk hla ⟨bs++[u],by simp,by simp[hbl],?_,(sz.trans (sy.ZL hl)).trans ((Zf.refl _).ZL hu)⟩⟩⟩
   rw[YO,Yf hkl]
   exact(htu.same ((sy.ZL hl).trans ((Zf.refl _).ZL hu))).push Zd
 ·rintro b acc Hz ⟨bs,rfl,hbl,htu,sz⟩ _ hb
  rw[List.take_of_length_le (by omega)]at htu
  have g1:=sz.ZL (o:=.lst (bs.map V.ref)) hb
  have htu2:=htu.same ((Zf.refl Hz).ZL (o:=.lst (bs.map V.ref)) hb)
  have hb2:(upd Hz b (.lst (bs.map V.ref))) b=some (.lst (bs.map V.ref)):=Zd
  generalize upd Hz b (.lst (bs.map V.ref))=H3 at *
  refine⟨b,rfl,⟨_,SqL.of hb2⟩,?_⟩
  refine ZcE (n:=5 ^ m) (λk acc Hy=>acc.length=(((Zba m).take k).filter λt=>(ZeC m).contains t).length/\Zf H3 Hy) hs5 ⟨rfl,Zf.refl _⟩ (λk acc Hy ⟨_,e⟩ hk=>⟨_,_,SqL.of (e _ _ hb2),Yf (by rw[Yh];omega)⟩) (λacc Hy ⟨_,e⟩=>⟨_,SqL.of (e _ _ hb2),by rw[Yh];omega⟩) ?_ ?_
  ·rintro k x acc Hy Hw hk hla ⟨hac,sy⟩ ⟨rfl,hx⟩
   have ex:=hx _ (SqL.of (sy _ _ hb2))
   rw[YB,Yf (by omega)]at ex
   cases ex
   walk_at "rd"
   have hkl:k<(Zba m).length:=by omega
   have etk:((Zba m).take (k+1)).filter (λt=>(ZeC m).contains t)=((Zba m).take k).filter (λt=>(ZeC m).contains t)++[(Zba m)[k]].filter λt=>(ZeC m).contains t:=by
    rw[YO,Yf hkl,List.filter_append];rfl
   have hkm:((Zba m)[k]).length=m:=by simp[Zba,ZM,ZfV]
   refine⟨_,(Zba m)[k],rfl,sy _ _ (htu2.2 k (by omega) hkl),by omega,λg H6 s6=>?_,λg H6 s6=>?_⟩
   ·exact⟨true,rfl,by rw[Yc rfl];exact CA.take hk hla ⟨by rw[etk,List.filter_cons_of_pos (l:=[]) ((Ziv (by omega) hkm).mp g)];simp[hac],sy.trans s6⟩⟩
   ·exact⟨false,rfl,by rw[Yb (by decide)];exact CA.skip hk hla ⟨by rw[etk,List.filter_cons_of_neg (l:=[]) (λz=>g ((Ziv (by omega) hkm).mpr z))];simp[hac],sy.trans s6⟩⟩
  ·rintro c acc Hy ⟨hac,sy⟩ _ hc
   rw[List.take_of_length_le (by omega)]at hac
   refine⟨c,rfl,_,.inl (SqL.of Zd),?_⟩
   rw[hac,Y2 (ZlV m (by omega))]
   exact k1 _ (s1.trans (g1.trans (sy.ZL hc)))
theorem ZfW {l:List Nat} (g:OkB l):∃ns,Zp ns (Za9 (l.foldl Zo ([],0)).1)/\braT (Zu (nth ns) ns.length)=l/\(Za9 (l.foldl Zo ([],0)).1).length<=40:=by
 obtain⟨ns,hT,hd,hv,h40⟩:=Zbp g.2.1
 have et:((l.foldl Zo ([],0)).1.map λ(d:Nat)=>(d:Int)).map Int.toNat=(l.foldl Zo ([],0)).1:=by simp[Function.comp_def]
 rw[et]at hT hd hv h40
 exact⟨ns,hT,by rw[hd,ZlT g],h40⟩
theorem Znb {l m:List Nat} (g:OkB l) (h:OkB m) (e:Za9 (l.foldl Zo ([],0)).1=Za9 (m.foldl Zo ([],0)).1):l=m:=by
 obtain⟨ns,h1,h2,_⟩:=ZfW g
 obtain⟨ms,h3,h4,_⟩:=ZfW h
 rw[<-e]at h3
 rw[<-h2,<-h4,Zce h1 h3]
theorem ZhE {l:List Nat} (g:OkB l):∀c∈l,c<128:=λc hc=>by
 rcases g.1 c hc with z|z<;>omega
theorem ok_law {f:Addr}{fd:FuncData} (F:Fun K "law" "law" s_law f fd) (ZaS:Callee P w K mg base "brackets_of" 6 ["tree"] (Zaz K mg)) (Zx:Callee P w K mg base "by_brackets" 3 ["text"] (ZZ K mg)) (Zcn:Callee P w K mg base "_law_pot" 1 ["script","k"] (ZcJ K mg)) (Z0:Callee P w K mg base "_law_take" 1 ["pot","many"] (sp__law_take K mg)) (Zbq:Callee P w K mg base "_law_counted" 5 ["many"] (Za5 K mg)) (ZbE:Callee P w K mg base "_law_text" 2 ["pot"] (Zcj K mg)) (T:Txt K mg):FnOk P w K mg base (CXE P w) 7 f fd ["script"] (spLaw K):=by
 refine F.okX sc_law (λvs H Q E h=>?_) (λcdv A outer s H vs Q E hr h=>?_)
 ·obtain⟨a,ns,rfl,_⟩:=h;rfl
 obtain⟨sc,ss,rfl,hsc,hss,k1⟩:=h
 refine⟨_,(Zc (Zl (i:=1) sc_law.nd rfl (Or.inl rfl) (Zj Z0 (hr.mono (by decide)) rfl ZN (Za (Zj Zcn (hr.mono (by decide)) rfl ZN (Za (pv 0) (Za Zg Zb))) (Za Zg Zb))))
   (Zc (Zaj (Zek (Zej (Zj Zbq (hr.mono (by decide)) rfl ZN (Za (pv 1) Zb)))) (Ze (ZA Zfm)) ZK)
   (Zc (Za1 (Za0 PassesOwn.never rfl (ZF rfl T.b_range (Za (Zi (Zj5 rfl) rfl T.b_max Zlv (Za Zg (Za (Zi (Zj6 rfl) rfl T.b_min Zlw (Za (Zi (Zk (K:=K) rfl) rfl T.b_len Yq (Za (pv 0) Zb)) (Za Zg Zb))) Zb))) Zb)) (Zq (i:=2) sc_law.nd rfl (Or.inl rfl)) (Zc (Zl (i:=3) sc_law.nd rfl (Or.inl rfl) (Zj Zcn (hr.mono (by decide)) rfl ZN (Za (pv 0) (Za (pv 2) Zb))))
   (Zc (Zl (i:=4) sc_law.nd rfl (Or.inl rfl) (Zj ZbE (hr.mono (by decide)) rfl ZN (Za (pv 3) Zb)))
   (Zc (Zl (i:=5) sc_law.nd rfl (Or.inl rfl) (Zj ZbE (hr.mono (by decide)) rfl ZN (Za (pv 3) Zb)))
   (Zc (Zaj (PW.pt (Zgu (Zs Zgw (Zfe (ZlB (K:=K) rfl hr) (Zj Zx (hr.mono (by decide)) rfl ZN (Za (pv 4) Zb)) (Zj Zx (hr.mono (by decide)) rfl ZN (Za (pv 5) Zb)) (Zw _)) (Zfe ZeP (pv 4) (pv 5) (Zw _)) (Zw _)) (Zfn (Zs Zgw (Zj ZaS (hr.mono (by decide)) rfl ZN (Za (Zj Zx (hr.mono (by decide)) rfl ZN (Za (pv 4) Zb)) Zb)) (pv 4) (Zw _))))) (Ze (ZA Zfm)) ZK)
   (Ze (Zaj (Zs Zgw (Zj ZaS (hr.mono (by decide)) rfl ZN (Za (Zj Zx (hr.mono (by decide)) rfl ZN (Za (pv 5) Zb)) Zb)) (pv 5) (Zw _)) (Ze (ZA Zfm)) ZK))))))))
   (Ze (ZA Zfm))))),?_⟩
 walk_at "rd"
 refine⟨sc,ss,0,rfl,hsc,by decide,by decide,λp H1 zp s1 P1=>⟨p,_,rfl,by decide,by decide,P1,λd H2 d0 d1 P2 e2=>?_⟩⟩
 obtain⟨m,rfl⟩:=Ja d0
 refine⟨m,rfl,by omega,λH3 s3=>⟨true,rfl,?_⟩⟩
 rw[Yb (by decide)]
 have sH:=(s1.exc zp e2).trans s3
 clear e2 P2 P1 s1 s3 zp
 refine⟨_,.inl (sH.seq hsc),?_,?_,Zak (λi σ H'=>∃v2 v3 v4 v5,σ=[some (.ref sc),some (.int m),v2,v3,v4,v5]/\Zf H H') ⟨_,_,_,_,rfl,sH⟩ ?_ ?_⟩
 ·split<;>omega
 ·split<;>omega
 ·rintro i σ H' hi ⟨v2,v3,v4,v5,rfl,hs⟩
  have hi40:i<40:=by
   revert hi
   split
   ·split<;>omega
   ·omega
  refine ZdY (fun σ Hx=>∃q,σ=[some (.ref sc),some (.int m),some (.int (0+(i:Int))),some (.ref q),v4,v5]/\H q=none/\Zdi Hx q/\Zf H Hx) (λR hR=>?_) ?_
  ·walk_at "rd"
   exact⟨sc,ss,_,rfl,hs.seq hsc,by omega,by omega,λq H1 hq s1 P1=>hR _ _ ⟨q,rfl,hs.free hq,P1,hs.trans s1⟩⟩
  rintro σ H1 ⟨q,rfl,zq,P1,s1⟩
  refine ZdY (fun σ Hx=>∃l:List Nat,σ=[some (.ref sc),some (.int m),some (.int (0+(i:Int))),some (.ref q),some (.str (txt l)),v5]/\OkB l/\l.length<=16/\Zdi Hx q/\Zf H Hx) (λR hR=>?_) ?_
  ·walk_at "rd"
   exact⟨q,rfl,P1,λl H2 g gl P2 e2=>hR _ _ ⟨l,rfl,g,gl,P2,s1.exc zq e2⟩⟩
  clear s1 P1 H1
  rintro σ H1 ⟨l,rfl,g,gl,P1,s1⟩
  refine ZdY (fun σ Hx=>∃o:List Nat,σ=[some (.ref sc),some (.int m),some (.int (0+(i:Int))),some (.ref q),some (.str (txt l)),some (.str (txt o))]/\OkB o/\o.length<=16/\Zf H Hx) (λR hR=>?_) ?_
  ·walk_at "rd"
   exact⟨q,rfl,P1,λo H2 h hl P2 e2=>hR _ _ ⟨o,rfl,h,hl,s1.exc zq e2⟩⟩
  clear s1 P1 H1
  rintro σ H1 ⟨o,rfl,h,hl,s1⟩
  have back:∀(l:List Nat) (Hx:Hp),OkB l->l.length<=16->∀Q:VK,(∀H',Zf Hx H'->Q (.str (txt l)) H')->ZZ K mg [.str (txt l)] Hx (λx Hy=>Zaz K mg [x] Hy Q E0) E0:=λl Hx g gl Q kq=>by
   refine⟨l,rfl,ZhE g,by omega,λ_ u Hy sy hu=>?_,λng=>absurd g ng⟩
   obtain⟨ns,hT,hb,h40⟩:=ZfW g
   exact⟨u,_,rfl,hu,by omega,.inl ⟨ns,h40,hT,λH' s'=>by rw[hb];exact kq _ (sy.trans s')⟩⟩
  refine ZdY (fun σ Hx=>σ=[some (.ref sc),some (.int m),some (.int (0+(i:Int))),some (.ref q),some (.str (txt l)),some (.str (txt o))]/\Zf H Hx) (λR hR=>?_) ?_
  ·walk_at "rd"
   refine⟨l,rfl,ZhE g,by omega,λ_ u1 H2 s2 h1=>?_,λng=>absurd g ng⟩
   refine⟨o,rfl,ZhE h,by omega,λ_ u2 H3 s3 h2=>?_,λng=>absurd h ng⟩
   refine⟨u1,rfl,u2,rfl,_,ZjM (n:=2) ZjL _ _ _ _ (ZdU (SqT.of (s3 _ _ h1))) (ZdU (SqT.of h2)),?_⟩
   have hd:decide (Za9 (l.foldl Zo ([],0)).1=Za9 (o.foldl Zo ([],0)).1)=decide (txt l=txt o):=by
    rw[decide_eq_decide]
    exact⟨λe=>by rw[Znb g h e],λe=>by rw[Zhs e]⟩
   rw[Yb (λz=>z hd)]
   exact back l H3 g gl _ λH4 s4=>⟨rfl,by rw[Yb (λz=>z rfl)];exact hR _ _ ⟨rfl,((s1.trans s2).trans s3).trans s4⟩⟩
  clear s1 H1
  rintro σ H1 ⟨rfl,s1⟩
  walk_at "rd"
  exact back o H1 h hl _ λH4 s4=>⟨rfl,by rw[Yb (λz=>z rfl)];exact s1.trans s4⟩
 ·rintro σ H' ⟨v2,v3,v4,v5,rfl,hs⟩
  walk_at "rd"
  exact k1 _
end
theorem all_mk {l:PySem.W.OpenLaw}{w:World}{K:PySem.W.Frag}{h:Heap}{mg:Str->Option Value}{fa:Addr} (X:K.In h) (G:h.Ns mainGlobals mg) (hfa:mg "law"=some (.ref fa))
  (ZfX:nsIn K mainGlobals "settle"=some (some (.ref Ziw))) (ZfY:K.lookup Ziw=some ⟨ZoQ,ZoR,.func (fnOf "settle" "settle" (defArgs s_settle) (defBody s_settle) (defScope s_settle) .none ZoS ZoT ZoU ZoV ZkS ZoW),ZoX⟩) (ZfZ:codeIn K ZkS "settle"=true) (Zec:keepIn K (.ref Ziw)=true)
  (ZeG:nsIn K mainGlobals "tree_of"=some (some (.ref Zg1))) (ZeH:K.lookup Zg1=some ⟨Zon,Zoo,.func (fnOf "tree_of" "tree_of" (defArgs s_tree_of) (defBody s_tree_of) (defScope s_tree_of) .none Zop Zoq Zor Zos Zjk Zot),Zou⟩) (ZeI:codeIn K Zjk "tree_of"=true) (Zdd:keepIn K (.ref Zg1)=true)
  (Zf0:nsIn K mainGlobals "way_up"=some (some (.ref Zix))) (Zf1:K.lookup Zix=some ⟨ZoY,ZoZ,.func (fnOf "way_up" "way_up" (defArgs s_way_up) (defBody s_way_up) (defScope s_way_up) .none Zo0 Zo1 Zo2 Zo3 ZkT Zo4),Zo5⟩) (Zf2:codeIn K ZkT "way_up"=true) (Zed:keepIn K (.ref Zix)=true)
  (ZeJ:nsIn K mainGlobals "is_tree"=some (some (.ref Zg2))) (ZeK:K.lookup Zg2=some ⟨Zov,Zow,.func (fnOf "is_tree" "is_tree" (defArgs Zbg) (defBody Zbg) (defScope Zbg) .none Zox Zoy Zoz ZoA Zjl ZoB),ZoC⟩) (ZeL:codeIn K Zjl "is_tree"=true) (Zde:keepIn K (.ref Zg2)=true)
  (ZcP:nsIn K mainGlobals "need_tree"=some (some (.ref ZeW))) (ZcQ:K.lookup ZeW=some ⟨Znc,Znd,.func (fnOf "need_tree" "need_tree" (defArgs Zao) (defBody Zao) (defScope Zao) .none Zne Znf Zng Znh ZhF Zni),Znj⟩) (ZcR:codeIn K ZhF "need_tree"=true) (ZbF:keepIn K (.ref ZeW)=true)
  (ZcS:nsIn K mainGlobals "fences_of"=some (some (.ref ZeX))) (ZcT:K.lookup ZeX=some ⟨Znk,Znl,.func (fnOf "fences_of" "fences_of" (defArgs Zap) (defBody Zap) (defScope Zap) .none Znm Znn Zno Znp ZhG Znq),Znr⟩) (ZcU:codeIn K ZhG "fences_of"=true) (ZbG:keepIn K (.ref ZeX)=true)
  (ZdC:nsIn K mainGlobals "drops_of"=some (some (.ref Zf3))) (ZdD:K.lookup Zf3=some ⟨ZnQ,ZnR,.func (fnOf "drops_of" "drops_of" (defArgs ZaL) (defBody ZaL) (defScope ZaL) .none ZnS ZnT ZnU ZnV Ziy ZnW),ZnX⟩) (ZdE:codeIn K Ziy "drops_of"=true) (Zco:keepIn K (.ref Zf3)=true)
  (ZbO:nsIn K mainGlobals "brackets_of"=some (some (.ref Zdk))) (ZbP:K.lookup Zdk=some ⟨ZlX,ZlY,.func (fnOf "brackets_of" "brackets_of" (defArgs ZU) (defBody ZU) (defScope ZU) .none ZlZ Zl0 Zl1 Zl2 Zf4 Zl3),Zl4⟩) (ZbQ:codeIn K Zf4 "brackets_of"=true) (ZaT:keepIn K (.ref Zdk)=true)
  (Zcp:nsIn K mainGlobals "need_short"=some (some (.ref Zee))) (Zcq:K.lookup Zee=some ⟨Zms,Zmt,.func (fnOf "need_short" "need_short" (defArgs Z3) (defBody Z3) (defScope Z3) .none Zmu Zmv Zmw Zmx Zgp Zmy),Zmz⟩) (Zcr:codeIn K Zgp "need_short"=true) (Zbd:keepIn K (.ref Zee)=true)
  (ZeM:nsIn K mainGlobals "kept_by"=some (some (.ref Zg3))) (ZeN:K.lookup Zg3=some ⟨ZoD,ZoE,.func (fnOf "kept_by" "kept_by" (defArgs Zbh) (defBody Zbh) (defScope Zbh) .none ZoF ZoG ZoH ZoI Zjm ZoJ),ZoK⟩) (ZeO:codeIn K Zjm "kept_by"=true) (Zdf:keepIn K (.ref Zg3)=true)
  (Zbr:nsIn K mainGlobals "by_distances"=some (some (.ref ZcV))) (Zbs:K.lookup ZcV=some ⟨ZkX,ZkY,.func (fnOf "by_distances" "by_distances" (defArgs ZO) (defBody ZO) (defScope ZO) .none ZkZ Zk0 Zk1 Zk2 Zfa Zk3),Zk4⟩) (Zbt:codeIn K Zfa "by_distances"=true) (ZaE:keepIn K (.ref ZcV)=true)
  (ZdF:nsIn K mainGlobals "by_drops"=some (some (.ref Zf5))) (ZdG:K.lookup Zf5=some ⟨ZnY,ZnZ,.func (fnOf "by_drops" "by_drops" (defArgs ZaM) (defBody ZaM) (defScope ZaM) .none Zn0 Zn1 Zn2 Zn3 Ziz Zn4),Zn5⟩) (ZdH:codeIn K Ziz "by_drops"=true) (Zcs:keepIn K (.ref Zf5)=true)
  (ZbR:nsIn K mainGlobals "by_brackets"=some (some (.ref Zdl))) (ZbS:K.lookup Zdl=some ⟨Zl5,Zl6,.func (fnOf "by_brackets" "by_brackets" (defArgs ZV) (defBody ZV) (defScope ZV) .none Zl7 Zl8 Zl9 Zma Zf6 Zmb),Zmc⟩) (ZbT:codeIn K Zf6 "by_brackets"=true) (ZaU:keepIn K (.ref Zdl)=true)
  (ZdI:nsIn K mainGlobals "_law_pot"=some (some (.ref Zf7))) (ZdJ:K.lookup Zf7=some ⟨Zn6,Zn7,.func (fnOf "_law_pot" "_law_pot" (defArgs ZaN) (defBody ZaN) (defScope ZaN) .none Zn8 Zn9 Zoa Zob ZiA Zoc),Zod⟩) (ZdK:codeIn K ZiA "_law_pot"=true) (Zct:keepIn K (.ref Zf7)=true)
  (ZcW:nsIn K mainGlobals "_law_take"=some (some (.ref ZeY))) (ZcX:K.lookup ZeY=some ⟨Zns,Znt,.func (fnOf "_law_take" "_law_take" (defArgs s__law_take) (defBody s__law_take) (defScope s__law_take) .none Znu Znv Znw Znx ZhH Zny),Znz⟩) (ZcY:codeIn K ZhH "_law_take"=true) (ZbH:keepIn K (.ref ZeY)=true)
  (ZbU:nsIn K mainGlobals "_law_digits"=some (some (.ref Zdm))) (ZbV:K.lookup Zdm=some ⟨Zmd,Zme,.func (fnOf "_law_digits" "_law_digits" (defArgs ZW) (defBody ZW) (defScope ZW) .none Zmf Zmg Zmh Zmi Zf8 Zmj),Zmk⟩) (ZbW:codeIn K Zf8 "_law_digits"=true) (ZaV:keepIn K (.ref Zdm)=true)
  (Zcu:nsIn K mainGlobals "_law_power"=some (some (.ref Zef))) (Zcv:K.lookup Zef=some ⟨ZmA,ZmB,.func (fnOf "_law_power" "_law_power" (defArgs Z4) (defBody Z4) (defScope Z4) .none ZmC ZmD ZmE ZmF Zgq ZmG),ZmH⟩) (Zcw:codeIn K Zgq "_law_power"=true) (Zbe:keepIn K (.ref Zef)=true)
  (ZcZ:nsIn K mainGlobals "_law_many"=some (some (.ref ZeZ))) (Zc0:K.lookup ZeZ=some ⟨ZnA,ZnB,.func (fnOf "_law_many" "_law_many" (defArgs Zaq) (defBody Zaq) (defScope Zaq) .none ZnC ZnD ZnE ZnF ZhI ZnG),ZnH⟩) (Zc1:codeIn K ZhI "_law_many"=true) (ZbI:keepIn K (.ref ZeZ)=true)
  (ZdL:nsIn K mainGlobals "_law_led"=some (some (.ref Zf9))) (ZdM:K.lookup Zf9=some ⟨Zoe,Zof,.func (fnOf "_law_led" "_law_led" (defArgs ZaO) (defBody ZaO) (defScope ZaO) .none Zog Zoh Zoi Zoj ZiB Zok),Zol⟩) (ZdN:codeIn K ZiB "_law_led"=true) (Zcx:keepIn K (.ref Zf9)=true)
  (Zbu:nsIn K mainGlobals "_law_counted"=some (some (.ref Zc2))) (Zbv:K.lookup Zc2=some ⟨Zk5,Zk6,.func (fnOf "_law_counted" "_law_counted" (defArgs ZP) (defBody ZP) (defScope ZP) .none Zk7 Zk8 Zk9 Zla Zfb Zlb),Zlc⟩) (Zbw:codeIn K Zfb "_law_counted"=true) (ZaF:keepIn K (.ref Zc2)=true)
  (Zc3:nsIn K mainGlobals "_law_text"=some (some (.ref Ze0))) (Zc4:K.lookup Ze0=some ⟨ZnI,ZnJ,.func (fnOf "_law_text" "_law_text" (defArgs Zar) (defBody Zar) (defScope Zar) .none ZnK ZnL ZnM ZnN ZhJ ZnO),ZnP⟩) (Zc5:codeIn K ZhJ "_law_text"=true) (ZbJ:keepIn K (.ref Ze0)=true)
  (Zml:nsIn K mainGlobals "law"=some (some (.ref Zom))) (Zmm:K.lookup Zom=some ⟨Zo7,Zo8,.func (fnOf "law" "law" (defArgs s_law) (defBody s_law) (defScope s_law) .none ZoL ZoM ZoN ZoO Zmn ZoP),Zo9⟩) (Zmo:codeIn K Zmn "law"=true) (Zmp:keepIn K (.ref Zom)=true)
  {C_DipError:Addr} (n_DipError:nsIn K mainGlobals "DipError"=some (some (.ref C_DipError))) (x_DipError:PySem.W.excIn K C_DipError bmV newV=true) (d_DipError:PySem.W.hasDictIn K C_DipError=true) (y_DipError:PySem.W.typeIn K (.ref C_DipError)=some (.type "type"))
  {C_NoTree:Addr} (n_NoTree:nsIn K mainGlobals "NoTree"=some (some (.ref C_NoTree))) (x_NoTree:PySem.W.excIn K C_NoTree bmV newV=true) (d_NoTree:PySem.W.hasDictIn K C_NoTree=true) (y_NoTree:PySem.W.typeIn K (.ref C_NoTree)=some (.type "type"))
  {C_NoTelling:Addr} (n_NoTelling:nsIn K mainGlobals "NoTelling"=some (some (.ref C_NoTelling))) (x_NoTelling:PySem.W.excIn K C_NoTelling bmV newV=true) (d_NoTelling:PySem.W.hasDictIn K C_NoTelling=true) (y_NoTelling:PySem.W.typeIn K (.ref C_NoTelling)=some (.type "type"))
  (z1_NoTelling:PySem.W.hasDictIn K C_NoTelling=true) (z2_NoTelling:PySem.W.findIn K (.ref C_NoTelling) "__getattribute__"=some (some (.builtin "BaseException.__getattribute__"))) (z3_NoTelling:PySem.W.findIn K (.ref C_NoTelling) "__getattr__"=some none) (z4_NoTelling:PySem.W.findIn K (.ref C_NoTelling) "__class__"=some (some (.builtin "object.__class__"))) (z5_NoTelling:PySem.W.specialIn K (.builtin "object.__class__") "__get__"=some (some (.builtin "getset_descriptor.__get__"))) (z6_NoTelling:PySem.W.takesIn K (.builtin "object.__class__")=some true) (z7_NoTelling:PySem.W.mroIn K C_NoTelling (.type "object")=some true) (z8_NoTelling:PySem.W.mroIn K C_NoTelling (.type "BaseException")=some true)
  (u_NoTelling:PySem.W.mroIn K C_NoTelling (.ref C_DipError)=some true)
  (us_NoTelling:PySem.W.mroIn K C_NoTelling (.ref C_NoTelling)=some true)
  (i_NoTelling_DipError:PySem.W.subIn K (.ref C_NoTelling) (.ref C_DipError)=some true) (ne_NoTelling_DipError:C_NoTelling≠C_DipError)
  (i_NoTelling_NoTree:PySem.W.subIn K (.ref C_NoTelling) (.ref C_NoTree)=some false) (ne_NoTelling_NoTree:C_NoTelling≠C_NoTree)
  (i_NoTelling_V:PySem.W.subIn K (.ref C_NoTelling) (.type "ValueError")=some true)
  (b_all:nsIn K mainGlobals "all"=some none)
  (b_enumerate:nsIn K mainGlobals "enumerate"=some none)
  (b_isinstance:nsIn K mainGlobals "isinstance"=some none)
  (b_len:nsIn K mainGlobals "len"=some none)
  (b_max:nsIn K mainGlobals "max"=some none)
  (b_min:nsIn K mainGlobals "min"=some none)
  (b_range:nsIn K mainGlobals "range"=some none)
  (b_set:nsIn K mainGlobals "set"=some none)
  (b_sum:nsIn K mainGlobals "sum"=some none)
  (b_tuple:nsIn K mainGlobals "tuple"=some none)
  {t_MOST_PLACES:Tok} (m_MOST_PLACES:nsIn K mainGlobals "MOST_PLACES"=some (some (.int 40 t_MOST_PLACES)))
  : ∃fd:FuncData,(∀(s:Shared) (v:Value),BindsTo s fd ⟨[v],[]⟩ [("script",v)])/\∀base:Heap,K.In base->base.Ns mainGlobals mg->FnOk l.prog w K mg base (CXE l.prog w) 7 fa fd ["script"] (spLaw K):=by
 have e:=hfa.symm.trans (mg_of X G Zml)
 cases e
 have q_DipError:clsAt mg "DipError"=C_DipError:=by unfold clsAt;rw[mg_of X G n_DipError]
 have q_NoTree:clsAt mg "NoTree"=C_NoTree:=by unfold clsAt;rw[mg_of X G n_NoTree]
 have q_NoTelling:clsAt mg "NoTelling"=C_NoTelling:=by unfold clsAt;rw[mg_of X G n_NoTelling]
 have q_MOST_PLACES:tokAt mg "MOST_PLACES"=t_MOST_PLACES:=by unfold tokAt;rw[mg_of X G m_MOST_PLACES]
 have T:Txt K mg:={
  b_all:=mg_none_of X G b_all
  b_enumerate:=mg_none_of X G b_enumerate
  b_isinstance:=mg_none_of X G b_isinstance
  b_len:=mg_none_of X G b_len
  b_max:=mg_none_of X G b_max
  b_min:=mg_none_of X G b_min
  b_range:=mg_none_of X G b_range
  b_set:=mg_none_of X G b_set
  b_sum:=mg_none_of X G b_sum
  b_tuple:=mg_none_of X G b_tuple
  c_DipError:=by rw[q_DipError];exact mg_of X G n_DipError
  x_DipError:=by rw[q_DipError];exact x_DipError
  c_NoTree:=by rw[q_NoTree];exact mg_of X G n_NoTree
  x_NoTree:=by rw[q_NoTree];exact x_NoTree
  c_NoTelling:=by rw[q_NoTelling];exact mg_of X G n_NoTelling
  x_NoTelling:=by rw[q_NoTelling];exact x_NoTelling
  ex_NoTelling:=by rw[q_NoTelling];exact⟨z1_NoTelling,z2_NoTelling,z3_NoTelling,z4_NoTelling,z5_NoTelling,z6_NoTelling,z7_NoTelling,z8_NoTelling⟩
  up_NoTelling:=by rw[q_NoTelling,q_DipError];exact u_NoTelling
  ups_NoTelling:=by rw[q_NoTelling];exact us_NoTelling
  is_NoTelling_DipError:=by rw[q_NoTelling,q_DipError];exact ZjJ ne_NoTelling_DipError d_DipError y_DipError i_NoTelling_DipError
  is_NoTelling_NoTree:=by rw[q_NoTelling,q_NoTree];exact ZjJ ne_NoTelling_NoTree d_NoTree y_NoTree i_NoTelling_NoTree
  is_NoTelling_NoTelling:=by rw[q_NoTelling];exact ZhW
  is_NoTelling_V:=by rw[q_NoTelling];exact kit_V i_NoTelling_V
  m_MOST_PLACES:=by rw[q_MOST_PLACES];exact mg_of X G m_MOST_PLACES
 }
 have ZiC:=ZH (st:=s_settle) ZfY ZfZ Zec
 have Zmq:=ZiC.binds (ps:=["elders","spine","place","keep"]) λ_ _ _ _ _ _ us hl=>by obtain⟨x0,u0,rfl,h0⟩:=le1 hl;obtain⟨x1,u1,rfl,h1⟩:=le1 h0;obtain⟨x2,u2,rfl,h2⟩:=le1 h1;obtain⟨x3,u3,rfl,h3⟩:=le1 h2;obtain rfl:=le0 h3;exact rfl
 have Zg4:=ZH (st:=s_tree_of) ZeH ZeI Zdd
 have ZkU:=Zg4.binds (ps:=["row"]) λ_ _ _ _ _ _ us hl=>by obtain⟨x0,u0,rfl,h0⟩:=le1 hl;obtain rfl:=le0 h0;exact rfl
 have ZiD:=ZH (st:=s_way_up) Zf1 Zf2 Zed
 have Zmr:=ZiD.binds (ps:=["tree","place"]) λ_ _ _ _ _ _ us hl=>by obtain⟨x0,u0,rfl,h0⟩:=le1 hl;obtain⟨x1,u1,rfl,h1⟩:=le1 h0;obtain rfl:=le0 h1;exact rfl
 have Zg5:=ZH (st:=Zbg) ZeK ZeL Zde
 have ZkV:=Zg5.binds (ps:=["tree"]) λ_ _ _ _ _ _ us hl=>by obtain⟨x0,u0,rfl,h0⟩:=le1 hl;obtain rfl:=le0 h0;exact rfl
 have Ze1:=ZH (st:=Zao) ZcQ ZcR ZbF
 have ZiE:=Ze1.binds (ps:=["tree"]) λ_ _ _ _ _ _ us hl=>by obtain⟨x0,u0,rfl,h0⟩:=le1 hl;obtain rfl:=le0 h0;exact rfl
 have Ze2:=ZH (st:=Zap) ZcT ZcU ZbG
 have ZiF:=Ze2.binds (ps:=["tree"]) λ_ _ _ _ _ _ us hl=>by obtain⟨x0,u0,rfl,h0⟩:=le1 hl;obtain rfl:=le0 h0;exact rfl
 have Zga:=ZH (st:=ZaL) ZdD ZdE Zco
 have Zjn:=Zga.binds (ps:=["tree"]) λ_ _ _ _ _ _ us hl=>by obtain⟨x0,u0,rfl,h0⟩:=le1 hl;obtain rfl:=le0 h0;exact rfl
 have Zdn:=ZH (st:=ZU) ZbP ZbQ ZaT
 have Zgr:=Zdn.binds (ps:=["tree"]) λ_ _ _ _ _ _ us hl=>by obtain⟨x0,u0,rfl,h0⟩:=le1 hl;obtain rfl:=le0 h0;exact rfl
 have Zeg:=ZH (st:=Z3) Zcq Zcr Zbd
 have ZhK:=Zeg.binds (ps:=["told"]) λ_ _ _ _ _ _ us hl=>by obtain⟨x0,u0,rfl,h0⟩:=le1 hl;obtain rfl:=le0 h0;exact rfl
 have Zg6:=ZH (st:=Zbh) ZeN ZeO Zdf
 have ZkW:=Zg6.binds (ps:=["spine","place","distance"]) λ_ _ _ _ _ _ us hl=>by obtain⟨x0,u0,rfl,h0⟩:=le1 hl;obtain⟨x1,u1,rfl,h1⟩:=le1 h0;obtain⟨x2,u2,rfl,h2⟩:=le1 h1;obtain rfl:=le0 h2;exact rfl
 have Zc6:=ZH (st:=ZO) Zbs Zbt ZaE
 have Zgb:=Zc6.binds (ps:=["told"]) λ_ _ _ _ _ _ us hl=>by obtain⟨x0,u0,rfl,h0⟩:=le1 hl;obtain rfl:=le0 h0;exact rfl
 have Zgc:=ZH (st:=ZaM) ZdG ZdH Zcs
 have Zjo:=Zgc.binds (ps:=["told"]) λ_ _ _ _ _ _ us hl=>by obtain⟨x0,u0,rfl,h0⟩:=le1 hl;obtain rfl:=le0 h0;exact rfl
 have Zdo:=ZH (st:=ZV) ZbS ZbT ZaU
 have Zgs:=Zdo.binds (ps:=["text"]) λ_ _ _ _ _ _ us hl=>by obtain⟨x0,u0,rfl,h0⟩:=le1 hl;obtain rfl:=le0 h0;exact rfl
 have Zgd:=ZH (st:=ZaN) ZdJ ZdK Zct
 have Zjp:=Zgd.binds (ps:=["script","k"]) λ_ _ _ _ _ _ us hl=>by obtain⟨x0,u0,rfl,h0⟩:=le1 hl;obtain⟨x1,u1,rfl,h1⟩:=le1 h0;obtain rfl:=le0 h1;exact rfl
 have Ze3:=ZH (st:=s__law_take) ZcX ZcY ZbH
 have ZiG:=Ze3.binds (ps:=["pot","many"]) λ_ _ _ _ _ _ us hl=>by obtain⟨x0,u0,rfl,h0⟩:=le1 hl;obtain⟨x1,u1,rfl,h1⟩:=le1 h0;obtain rfl:=le0 h1;exact rfl
 have Zdp:=ZH (st:=ZW) ZbV ZbW ZaV
 have Zgt:=Zdp.binds (ps:=["code","base","many"]) λ_ _ _ _ _ _ us hl=>by obtain⟨x0,u0,rfl,h0⟩:=le1 hl;obtain⟨x1,u1,rfl,h1⟩:=le1 h0;obtain⟨x2,u2,rfl,h2⟩:=le1 h1;obtain rfl:=le0 h2;exact rfl
 have Zeh:=ZH (st:=Z4) Zcv Zcw Zbe
 have ZhL:=Zeh.binds (ps:=["base","many"]) λ_ _ _ _ _ _ us hl=>by obtain⟨x0,u0,rfl,h0⟩:=le1 hl;obtain⟨x1,u1,rfl,h1⟩:=le1 h0;obtain rfl:=le0 h1;exact rfl
 have Ze4:=ZH (st:=Zaq) Zc0 Zc1 ZbI
 have ZiH:=Ze4.binds (ps:=["many"]) λ_ _ _ _ _ _ us hl=>by obtain⟨x0,u0,rfl,h0⟩:=le1 hl;obtain rfl:=le0 h0;exact rfl
 have Zge:=ZH (st:=ZaO) ZdM ZdN Zcx
 have Zjq:=Zge.binds (ps:=["way","told"]) λ_ _ _ _ _ _ us hl=>by obtain⟨x0,u0,rfl,h0⟩:=le1 hl;obtain⟨x1,u1,rfl,h1⟩:=le1 h0;obtain rfl:=le0 h1;exact rfl
 have Zc7:=ZH (st:=ZP) Zbv Zbw ZaF
 have Zgf:=Zc7.binds (ps:=["many"]) λ_ _ _ _ _ _ us hl=>by obtain⟨x0,u0,rfl,h0⟩:=le1 hl;obtain rfl:=le0 h0;exact rfl
 have Ze5:=ZH (st:=Zar) Zc4 Zc5 ZbJ
 have ZiI:=Ze5.binds (ps:=["pot"]) λ_ _ _ _ _ _ us hl=>by obtain⟨x0,u0,rfl,h0⟩:=le1 hl;obtain rfl:=le0 h0;exact rfl
 have Zo6:=ZH (st:=s_law) Zmm Zmo Zmp
 refine⟨fnOf "law" "law" (defArgs s_law) (defBody s_law) (defScope s_law) .none ZoL ZoM ZoN ZoO Zmn ZoP,λs v=>.of_eq rfl,λbase _ _=>?_⟩
 have ZaC:Callee l.prog w K mg base "settle" 1 ["elders","spine","place","keep"] (sp_settle K mg):=⟨_,_,mg_of X G ZfX,Zec,Zmq,ok_settle ZiC T⟩
 have ZeE:Callee l.prog w K mg base "tree_of" 2 ["row"] (sp_tree_of K mg):=⟨_,_,mg_of X G ZeG,Zdd,ZkU,ok_tree_of Zg4 ZaC T⟩
 have Zb2:Callee l.prog w K mg base "way_up" 1 ["tree","place"] (sp_way_up K mg):=⟨_,_,mg_of X G Zf0,Zed,Zmr,ok_way_up ZiD T⟩
 have ZaP:Callee l.prog w K mg base "is_tree" 3 ["tree"] (Zcf K mg):=⟨_,_,mg_of X G ZeJ,Zde,ZkV,Zjg Zg5 ZeE Zb2 T⟩
 have ZcM:Callee l.prog w K mg base "need_tree" 4 ["tree"] (Zcg K mg):=⟨_,_,mg_of X G ZcP,ZbF,ZiE,Zhy Ze1 ZaP T⟩
 have ZcN:Callee l.prog w K mg base "fences_of" 2 ["tree"] (Zch K mg):=⟨_,_,mg_of X G ZcS,ZbG,ZiF,Zhz Ze2 Zb2 T⟩
 have ZdA:Callee l.prog w K mg base "drops_of" 5 ["tree"] (ZcK K mg):=⟨_,_,mg_of X G ZdC,Zco,Zjn,Zir Zga ZcM ZcN T⟩
 have ZaS:Callee l.prog w K mg base "brackets_of" 6 ["tree"] (Zaz K mg):=⟨_,_,mg_of X G ZbO,ZaT,Zgr,ZfO Zdn ZdA T⟩
 have Z7:Callee l.prog w K mg base "need_short" 1 ["told"] (ZaQ K mg):=⟨_,_,mg_of X G Zcp,Zbd,ZhK,Zgn Zeg T⟩
 have Zai:Callee l.prog w K mg base "by_drops" 2 ["told"] (ZbB K mg):=⟨_,_,mg_of X G ZdF,Zcs,Zjo,Zis Zgc ZaC Z7 T⟩
 have Zx:Callee l.prog w K mg base "by_brackets" 3 ["text"] (ZZ K mg):=⟨_,_,mg_of X G ZbR,ZaU,Zgs,ZfQ Zdo Zai T⟩
 have Zcn:Callee l.prog w K mg base "_law_pot" 1 ["script","k"] (ZcJ K mg):=⟨_,_,mg_of X G ZdI,Zct,Zjp,Ziq Zgd T⟩
 have Z0:Callee l.prog w K mg base "_law_take" 1 ["pot","many"] (sp__law_take K mg):=⟨_,_,mg_of X G ZcW,ZbH,ZiG,ok__law_take Ze3 T⟩
 have ZbN:Callee l.prog w K mg base "_law_digits" 1 ["code","base","many"] (Zbn K mg):=⟨_,_,mg_of X G ZbU,ZaV,Zgt,ZfS Zdp T⟩
 have Zcm:Callee l.prog w K mg base "_law_power" 1 ["base","many"] (ZbM K mg):=⟨_,_,mg_of X G Zcu,Zbe,ZhL,Zgo Zeh T⟩
 have ZcO:Callee l.prog w K mg base "_law_many" 1 ["many"] (Zci K mg):=⟨_,_,mg_of X G ZcZ,ZbI,ZiH,ZhA Ze4 T⟩
 have ZeF:Callee l.prog w K mg base "kept_by" 1 ["spine","place","distance"] (Zdz K mg):=⟨_,_,mg_of X G ZeM,Zdf,ZkW,Zjh Zg6 T⟩
 have ZaD:Callee l.prog w K mg base "by_distances" 2 ["told"] (Za4 K mg):=⟨_,_,mg_of X G Zbr,ZaE,Zgb,Ze8 Zc6 ZaC Z7 ZeF T⟩
 have ZdB:Callee l.prog w K mg base "_law_led" 4 ["way","told"] (ZcL K mg):=⟨_,_,mg_of X G ZdL,Zcx,Zjq,Zit Zge ZaD Zai Zx T⟩
 have Zbq:Callee l.prog w K mg base "_law_counted" 5 ["many"] (Za5 K mg):=⟨_,_,mg_of X G Zbu,ZaF,Zgf,Ze9 Zc7 ZaP ZbN Zcm ZcO ZdB T⟩
 have ZbE:Callee l.prog w K mg base "_law_text" 2 ["pot"] (Zcj K mg):=⟨_,_,mg_of X G Zc3,ZbJ,ZiI,ZhB Ze5 Z0 T⟩
 exact ok_law Zo6 ZaS Zx Zcn Z0 Zbq ZbE T
theorem walk {l:PySem.W.OpenLaw}{q:Program}{loose:List Str}{XP:(Str->Option Value)->Heap->Prop}{YP:World->Heap->Prop}{d:DefRec}{K:Params->PySem.W.Frag} (hn:l.most=some 63) (hdf:d.params.defaults=[])
  (hY:∀(w:World) (h:Heap),YP w h->(K w.params).In h)
  (F:∀(w:World) (mg:Str->Option Value) (fa:Addr) (h:Heap),(K w.params).In h->h.Ns mainGlobals mg->mg d.name=some (.ref fa) ->
   ∃fd:FuncData,(∀(s:Shared) (u:Value),BindsTo s fd ⟨[u],[]⟩ [("script",u)])/\∀base:Heap,(K w.params).In base->base.Ns mainGlobals mg->FnOk l.prog w (K w.params) mg base (CXE l.prog w) 7 fa fd ["script"] (spLaw (K w.params))) :
  PySem.W.WalkO q loose XP YP l.row.toRowW d [] (λf vs=>PySem.call f vs) :=
 L2.ZmP (n:=63) (k:=7) (x:="script") (CX:=λw=>CXE l.prog w) (sp:=λw=>spLaw (K w.params)) hn (by decide) hdf ⟨rfl,by decide,by decide⟩ hY F (λ_ _ a ns hl _ hS=>⟨a,ns,rfl,hS,hl,λ_=>rfl⟩) λ_ _ _ _ _ ⟨_,_,_,_,_,_,_,z⟩=>z
end K14
def PySem.W.Fast.tw3716793610113384786:Unit:=()
def PySem.W.Fast.tw517638303221623490:Unit:=()
def PySem.W.Fast.tw11745012520114881999:Unit:=()
def PySem.W.Fast.tw2441487556210356381:Unit:=()
def PySem.W.Fast.tw12147628049808966271:Unit:=()
def PySem.W.Fast.tw11309382793453288287:Unit:=()
def PySem.W.Fast.tw242929629633126641:Unit:=()
def PySem.W.Fast.tw13066988311969927084:Unit:=()
def PySem.W.Fast.tw1175682703406585176:Unit:=()
def PySem.W.Fast.tw10871649910549860069:Unit:=()
def PySem.W.Fast.tw5386193723267669195:Unit:=()
def PySem.W.Fast.tw3732268445003425862:Unit:=()
def PySem.W.Fast.tw2126626792150347090:Unit:=()
def PySem.W.Fast.tw8227603052318680352:Unit:=()
def PySem.W.Fast.tw18309195287258333540:Unit:=()
def PySem.W.Fast.tw359013137516187974:Unit:=()
def PySem.W.Fast.tw8011393318646343462:Unit:=()
def PySem.W.Fast.tw13374039237600865144:Unit:=()
def PySem.W.Fast.tw13521702923855058910:Unit:=()
def PySem.W.Fast.tw14432365746315346639:Unit:=()
def PySem.W.Fast.tw4520101274893486918:Unit:=()
def PySem.W.Fast.tw18321020107571337881:Unit:=()
def PySem.W.Fast.tw9953535124559232885:Unit:=()
def PySem.W.Fast.tw14614457097312160510:Unit:=()
def PySem.W.Fast.tw6372521534567857149:Unit:=()
def PySem.W.Fast.tw11872929516988333449:Unit:=()
def PySem.W.Fast.tw15403864800886182080:Unit:=()
def PySem.W.Fast.tw1162213143752332185:Unit:=()
def PySem.W.Fast.tw2887833217531637249:Unit:=()
def PySem.W.Fast.tw12478489049056751288:Unit:=()
def PySem.W.Fast.tw8773835095827673457:Unit:=()
def PySem.W.Fast.tw7630108337736543485:Unit:=()
def PySem.W.Fast.tw11193864789747000753:Unit:=()
def PySem.W.Fast.tw8374291364491774346:Unit:=()
def PySem.W.Fast.tw17566869920802766404:Unit:=()
def PySem.W.Fast.tw5005544357190349037:Unit:=()
def PySem.W.Fast.tw6336218116040885231:Unit:=()
def PySem.W.Fast.tw15060735162385602174:Unit:=()
def PySem.W.Fast.tw16713285253698210665:Unit:=()
def PySem.W.Fast.tw17948632739249565114:Unit:=()
def PySem.W.Fast.tw9658474748116075312:Unit:=()
def PySem.W.Fast.tw11701534822392010244:Unit:=()
def PySem.W.Fast.tw16800662674120579300:Unit:=()
def PySem.W.Fast.tw943966615403522302:Unit:=()
def PySem.W.Fast.tw17315438071458101855:Unit:=()
def PySem.W.Fast.tw1222093223751239915:Unit:=()
def PySem.W.Fast.tw8842617908999036663:Unit:=()
def PySem.W.Fast.tw985018969444424719:Unit:=()
def PySem.W.Fast.tw1140876897696062557:Unit:=()
def PySem.W.Fast.tw18433792717860921984:Unit:=()
def PySem.W.Fast.tw2651647957254693154:Unit:=()
def PySem.W.Fast.tw9858817483526070519:Unit:=()
def PySem.W.Fast.tw2560912454649948342:Unit:=()
def PySem.W.Fast.tw15542920001258524611:Unit:=()
def PySem.W.Fast.tw9303004218709966183:Unit:=()
def PySem.W.Fast.tw15348957403455691001:Unit:=()
def PySem.W.Fast.tw13401023086099634199:Unit:=()
def PySem.W.Fast.tw11360818668741967729:Unit:=()
def PySem.W.Fast.tw421204627509084197:Unit:=()
def PySem.W.Fast.tw18107482240584942059:Unit:=()
def PySem.W.Fast.tw12495091315984240679:Unit:=()
def PySem.W.Fast.tw16254491144895566083:Unit:=()
open PySem PySem.W PyProof.Rows
set_option maxRecDepth 100000 in
set_option maxHeartbeats 0 in
theorem PySem.Challenge.cw_dipkin_k14_whole_all_small_trees_holds : PySem.Challenge.rw_dipkin_k14_whole_all_small_trees.Holds := by
 w_on;o_law;k_head;(case hw=>w_witness2)
 k_fill
 refine K14.walk (l:=PySem.Challenge.rw_dipkin_k14_whole_all_small_trees) rfl rfl (λw h Y=>PySem.W.kIn_of Y) ?F
 case F =>
  intro w mg fa h KX G hmg
  refine' K14.all_mk KX G hmg ?ZfX ?ZfY ?ZfZ ?Zec ?ZeG ?ZeH ?ZeI ?Zdd ?Zf0 ?Zf1 ?Zf2 ?Zed ?ZeJ ?ZeK ?ZeL ?Zde ?ZcP ?ZcQ ?ZcR ?ZbF ?ZcS ?ZcT ?ZcU ?ZbG ?ZdC ?ZdD ?ZdE ?Zco ?ZbO ?ZbP ?ZbQ ?ZaT ?Zcp ?Zcq ?Zcr ?Zbd ?ZeM ?ZeN ?ZeO ?Zdf ?Zbr ?Zbs ?Zbt ?ZaE ?ZdF ?ZdG ?ZdH ?Zcs ?ZbR ?ZbS ?ZbT ?ZaU ?ZdI ?ZdJ ?ZdK ?Zct ?ZcW ?ZcX ?ZcY ?ZbH ?ZbU ?ZbV ?ZbW ?ZaV ?Zcu ?Zcv ?Zcw ?Zbe ?ZcZ ?Zc0 ?Zc1 ?ZbI ?ZdL ?ZdM ?ZdN ?Zcx ?Zbu ?Zbv ?Zbw ?ZaF ?Zc3 ?Zc4 ?Zc5 ?ZbJ ?Zml ?Zmm ?Zmo ?Zmp ?n_DipError ?x_DipError ?d_DipError ?y_DipError ?n_NoTree ?x_NoTree ?d_NoTree ?y_NoTree ?n_NoTelling ?x_NoTelling ?d_NoTelling ?y_NoTelling ?z1_NoTelling ?z2_NoTelling ?z3_NoTelling ?z4_NoTelling ?z5_NoTelling ?z6_NoTelling ?z7_NoTelling ?z8_NoTelling ?u_NoTelling ?us_NoTelling ?i_NoTelling_DipError ?ne_NoTelling_DipError ?i_NoTelling_NoTree ?ne_NoTelling_NoTree ?i_NoTelling_V ?b_all ?b_enumerate ?b_isinstance ?b_len ?b_max ?b_min ?b_range ?b_set ?b_sum ?b_tuple ?m_MOST_PLACES
  (case ZfX|ZfY|ZfZ|Zec|ZeG|ZeH|ZeI|Zdd|Zf0|Zf1|Zf2|Zed|ZeJ|ZeK|ZeL|Zde|ZcP|ZcQ|ZcR|ZbF|ZcS|ZcT|ZcU|ZbG|ZdC|ZdD|ZdE|Zco|ZbO|ZbP|ZbQ|ZaT|Zcp|Zcq|Zcr|Zbd|ZeM|ZeN|ZeO|Zdf|Zbr|Zbs|Zbt|ZaE|ZdF|ZdG|ZdH|Zcs|ZbR|ZbS|ZbT|ZaU|ZdI|ZdJ|ZdK|Zct|ZcW|ZcX|ZcY|ZbH|ZbU|ZbV|ZbW|ZaV|Zcu|Zcv|Zcw|Zbe|ZcZ|Zc0|Zc1|ZbI|ZdL|ZdM|ZdN|Zcx|Zbu|Zbv|Zbw|ZaF|Zc3|Zc4|Zc5|ZbJ|Zml|Zmm|Zmo|Zmp|n_DipError=>k_is)
  (case x_DipError=>k_exc)
  (case d_DipError|y_DipError|n_NoTree=>k_is)
  (case x_NoTree=>k_exc)
  (case d_NoTree|y_NoTree|n_NoTelling=>k_is)
  (case x_NoTelling=>k_exc)
  (case d_NoTelling|y_NoTelling|z1_NoTelling|z2_NoTelling|z3_NoTelling|z4_NoTelling|z5_NoTelling|z6_NoTelling|z7_NoTelling|z8_NoTelling|u_NoTelling|us_NoTelling|i_NoTelling_DipError=>k_is)
  (case ne_NoTelling_DipError=>decide)
  (case i_NoTelling_NoTree=>k_is)
  (case ne_NoTelling_NoTree=>decide)
  (case i_NoTelling_V|b_all|b_enumerate|b_isinstance|b_len|b_max|b_min|b_range|b_set|b_sum|b_tuple|m_MOST_PLACES=>k_is)
