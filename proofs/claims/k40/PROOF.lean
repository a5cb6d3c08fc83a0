import PyProof.Rows.All
import Wide.All
import OpenK.AllK
import Wide.FinOn
import Lean
import PyProof.EqAt
import PyProof.EqKinds
import PyProof.TupleCall
import PyProof.MeetsSeq
import PyProof.NeKinds
import PyProof.TupleOfSeq
import PyProof.ListRange
import PyProof.TupleOfGen
import PyProof.ZipIter
import KE.KRevIter
import PyProof.StrWalks
import PyProof.StrBlock2
import PyProof.MeetsStr
import PyProof.StrCalls2
import PyProof.StrLawsIn
import KE.KIntText
import PyProof.StrLawsTight
import PyProof.StrLawsChain
import PyProof.StrLawsAffix
import PyProof.Rows.StrItems
import PyProof.Rows.ReprOcc
import KE.KDictSum
import PyProof.Rows.SeqMore
import KE.KDictList
import PySem.Challenge.RW_dipkin_k40_starts_judged
set_option Elab.async false
set_option linter.all false
set_option maxRecDepth 100000
set_option maxHeartbeats 4000000
set_option genSizeOfSpec false
local macro_rules | `(tactic| omega) => `(tactic| first | lia | omega (config := {}))
section
open PySem PySem.Spec PyProof.Rows
noncomputable abbrev Ya:=@Nat.le_refl
noncomputable abbrev Yb:=@List.getElem?_eq_getElem
noncomputable abbrev Yc:=@List.length_map
noncomputable abbrev Yd:=@if_pos
noncomputable abbrev Ye:=@if_neg
noncomputable abbrev Yf:=@wpAny_bind
noncomputable abbrev Yg:=@PySem.boot_len
noncomputable abbrev Yh:=@Nat.le_trans
noncomputable abbrev Yi:=@Heap.lt_size
noncomputable abbrev Yj:=@List.getD_eq_getElem?_getD
noncomputable abbrev Yk:=@List.mem_cons
noncomputable abbrev Yl:=@List.mem_append
noncomputable abbrev Ym:=@List.size_toArray
noncomputable abbrev Yn:=@List.getElem?_eq_some_iff
noncomputable abbrev Yo:=@decide_eq_true
noncomputable abbrev Yp:=@Nat.lt_of_le_of_lt
noncomputable abbrev Yq:=@wpAny_pure
noncomputable abbrev Yr:=@Nat.zero_le
noncomputable abbrev Ys:=@Heap.get?_push_of_some
noncomputable abbrev Yt:=@List.getElem?_map
noncomputable abbrev Yu:=@decide_eq_false
noncomputable abbrev Yv:=@Nat.ne_of_lt
noncomputable abbrev Yw:=@Nat.lt_of_lt_of_le
noncomputable abbrev Yx:=@Option.some.inj
noncomputable abbrev Yy:=@List.mem_append_right
noncomputable abbrev Yz:=@Bool.false_ne_true
noncomputable abbrev YA:=@List.getElem_mem
noncomputable abbrev YB:=@List.mem_map
noncomputable abbrev YC:=@List.mem_range
noncomputable abbrev YD:=@Heap.get?_push_size
noncomputable abbrev YE:=@Nat.lt_irrefl
noncomputable abbrev YF:=@List.mem_append_left
noncomputable abbrev YG:=@List.map_append
noncomputable abbrev YH:=@List.mem_cons_self
noncomputable abbrev YI:=@Array.length_toList
noncomputable abbrev YJ:=@List.length_append
noncomputable abbrev YK:=@List.mem_singleton
noncomputable abbrev YL:=@List.mem_filter
noncomputable abbrev YM:=@List.mem_cons_of_mem
noncomputable abbrev YN:=@List.length_cons
noncomputable abbrev YO:=@Int.eq_ofNat_of_zero_le
noncomputable abbrev YQ:=@of_decide_eq_true
noncomputable abbrev YR:=@wpAny_mono
noncomputable abbrev YS:=@List.map_cons
noncomputable abbrev YT:=@Nat.le_succ
noncomputable abbrev YU:=@List.range_succ
noncomputable abbrev YV:=@Nat.lt_succ_of_lt
noncomputable abbrev YW:=@List.length_take
noncomputable abbrev YX:=@List.length_drop
noncomputable abbrev YY:=@Nat.le_of_lt
noncomputable abbrev YZ:=@List.map_map
noncomputable abbrev Y0:=@List.pairwise_cons
noncomputable abbrev Y1:=@List.append_assoc
noncomputable abbrev Y2:=@List.length_range
noncomputable abbrev Y3:=@List.length_filter_le
noncomputable abbrev Y4:=@List.getElem?_append_left
noncomputable abbrev Y5:=@List.take_add_one
noncomputable abbrev Y6:=@List.getElem?_append_right
end
namespace L2
open PySem PySem.Spec PyProof.Rows
noncomputable abbrev Key:=Sum Int Str
noncomputable def keyIs:Key->Value->Bool
 |.inl k,v=>Value.isInt k v
 |.inr x,v=>Value.isStrOf x v
noncomputable def keyH (w:World):Key->Int
 |.inl k=>hashInt k
 |.inr x=>hashStr w x
theorem Z5:∀{k:Key}{v:Value},keyIs k v=true->(∃i t,k=Sum.inl i/\v=Value.int i t)\/(∃x t,k=Sum.inr x/\v=Value.str x t)
 |.inl i,v,h=>by
  obtain⟨t,e⟩:=Value.isInt_shape (k:=i) (v:=v) h
  exact .inl ⟨i,t,rfl,e⟩
 |.inr x,v,h=>by
  obtain⟨t,e⟩:=Value.isStrOf_shape (x:=x) (v:=v) h
  exact .inr ⟨x,t,rfl,e⟩
theorem key_ll (a b:Int):decide ((Sum.inl a:Key)=Sum.inl b)=(a==b):=by
 by_cases e:a=b
 ·subst e;simp
 ·have h:¬ (Sum.inl a:Key)=Sum.inl b:=λq=>e (Sum.inl.inj q)
  rw[Yu h]
  exact(beq_eq_false_iff_ne.mpr e).symm
theorem key_rr (a b:Str):decide ((Sum.inr a:Key)=Sum.inr b)=decide (a=b):=by
 by_cases e:a=b
 ·subst e;simp
 ·have h:¬ (Sum.inr a:Key)=Sum.inr b:=λq=>e (Sum.inr.inj q)
  rw[Yu h,Yu e]
theorem key_lr (a:Int) (b:Str):decide ((Sum.inl a:Key)=Sum.inr b)=false:=Yu (λq=>nomatch q)
theorem key_rl (a:Str) (b:Int):decide ((Sum.inr a:Key)=Sum.inl b)=false:=Yu (λq=>nomatch q)
noncomputable def Zj6 (prog:Program) (w:World):PySem.KeyKind prog w Key where
 is:=keyIs
 hash:=keyH w
 inj:=λv a b ha hb=>by
  rcases Z5 ha with⟨i,t,rfl,rfl⟩|⟨x,t,rfl,rfl⟩
  ·rcases Z5 hb with⟨j,u,rfl,e⟩|⟨y,u,rfl,e⟩
   ·injection e with e1 _;rw[e1]
   ·exact nomatch e
  ·rcases Z5 hb with⟨j,u,rfl,e⟩|⟨y,u,rfl,e⟩
   ·exact nomatch e
   ·injection e with e1 _;rw[e1]
 byValue:=λk v h=>by
  rcases Z5 h with⟨i,t,rfl,rfl⟩|⟨x,t,rfl,rfl⟩<;>rfl
 pyHash:=λhv h=>by
  rcases Z5 hv with⟨i,t,rfl,rfl⟩|⟨x,t,rfl,rfl⟩
  ·exact wpAny_pyHash_int h
  ·exact wpAny_pyHash_str h
 eqBool:=λhu hv h=>by
  rcases Z5 hu with⟨i,t,rfl,rfl⟩|⟨x,t,rfl,rfl⟩
  ·rcases Z5 hv with⟨j,u,rfl,rfl⟩|⟨y,u,rfl,rfl⟩
   ·rw[key_ll]at h;exact wpAny_eqBool_int h
   ·rw[key_lr]at h;exact SeqAt.EqAt.int_str i t y u _ _ _ _ h
  ·rcases Z5 hv with⟨j,u,rfl,rfl⟩|⟨y,u,rfl,rfl⟩
   ·rw[key_rl]at h;exact SeqAt.EqAt.str_int x t j u _ _ _ _ h
   ·rw[key_rr]at h;exact wpAny_eqBool_str h
 «strs»:=λk x t v h=>by
  rcases Z5 h with⟨i,u,rfl,e⟩|⟨y,u,rfl,e⟩
  ·exact nomatch e
  ·injection e with e1 _
   subst e1
   cases v<;>rfl
inductive V where
 |non|bl (b:Bool)|int (i:Int)|str (x:Str)|byt (b:Array UInt8)|flt (b:UInt64)|ref (a:Addr)|ty (n:String)
 deriving DecidableEq
noncomputable def RelV:V->Value->Prop
 |.non,u=>u=Value.none
 |.bl b,u=>u=Value.bool b
 |.int i,u=>∃t,u=Value.int i t
 |.str x,u=>∃t,u=Value.str x t
 |.byt b,u=>∃t,u=Value.bytes b t
 |.flt b,u=>∃t,u=Value.float b t
 |.ref a,u=>u=Value.ref a
 |.ty n,u=>u=Value.type n
noncomputable abbrev Vals:List V->List Value->Prop:=Paired RelV
theorem Vals.length {xs:List V}{us:List Value} (r:Vals xs us):xs.length=us.length:=Paired.length r
theorem Vals.get:∀{xs:List V}{us:List Value}{i:Nat}{x:V},Vals xs us->xs[i]?=some x->∃u,us[i]?=some u/\RelV x u
 |_,_,_,_,.nil,e=>by simp at e
 |_,_,0,_,.cons r _,e=>by simp at e;subst e;exact⟨_,rfl,r⟩
 |_,_,i+1,x,.cons _ t,e=>by
  obtain⟨u,h1,h2⟩:=Vals.get (i:=i) (x:=x) t (by simpa using e)
  exact⟨u,by simpa using h1,h2⟩
theorem Vals.set {x:V}{u:Value} (r:RelV x u):∀{xs:List V}{us:List Value} (i:Nat),Vals xs us->Vals (xs.set i x) (us.set i u)
 |_,_,_,.nil=>.nil
 |_,_,0,.cons _ t=>.cons r t
 |_,_,i+1,.cons q t=>.cons q (Vals.set r i t)
theorem Vals.append:∀{xs ys:List V}{us ws:List Value},Vals xs us->Vals ys ws->Vals (xs++ys) (us++ws)
 |_,_,_,_,.nil,s=>s
 |_,_,_,_,.cons r t,s=>.cons r (Vals.append t s)
theorem Vals.take:∀{xs:List V}{us:List Value} (n:Nat),Vals xs us->Vals (xs.take n) (us.take n)
 |_,_,0,_=>.nil
 |_,_,_+1,.nil=>.nil
 |_,_,n+1,.cons r t=>.cons r (Vals.take n t)
theorem Vals.drop:∀{xs:List V}{us:List Value} (n:Nat),Vals xs us->Vals (xs.drop n) (us.drop n)
 |_,_,0,r=>r
 |_,_,_+1,.nil=>.nil
 |_,_,n+1,.cons _ t=>Vals.drop n t
noncomputable def RelO:Option V->Option Value->Prop
 |some v,some u=>RelV v u
 |none,none=>True
 |_,_=>False
noncomputable def KV {κ:Type}:List (κ×V)->List (κ×Value)->Prop:=Paired λ(p:κ×V) (q:κ×Value)=>p.1=q.1/\RelV p.2 q.2
noncomputable def kV:Key->V
 |.inl i=>.int i
 |.inr x=>.str x
inductive HO where
 |lst (xs:List V)
 |tup (xs:List V)
 |dK (kvs:List (Key×V))|dT (kvs:List (List Key×V))
 |set (S:Int->Bool) (n:Nat)
 |ins (C dx:Addr) (fs:List (Str×V))
 |own (x:Addr)
 |xd (fs:List (Str×V))
 |met (f x:Addr)
 |rng (lo hi:Int)
 |frz (o:Obj) (u:HO)
 |tbl (ps:Array Value)
 |ext (φ:Heap->Prop)
noncomputable abbrev Hp:=Addr->Option HO
noncomputable def upd (H:Hp) (a:Addr) (o:HO):Hp:=λb=>if b=a then some o else H b
theorem Zb {H:Hp}{a:Addr}{o:HO}:upd H a o a=some o:=by unfold upd;rw[Yd rfl]
theorem Zq {H:Hp}{a b:Addr}{o:HO} (h:b≠a):upd H a o b=H b:=by unfold upd;rw[Ye h]
theorem ZV {H:Hp}{a b:Addr}{o:HO} (h:H a=some o) (h':H b=none):a≠b:=by
 intro e;subst e;rw[h]at h';cases h'
section
variable (P:Program) (w:World)
noncomputable def Zas (H:Hp) (h:Heap) (a:Addr):HO->Prop
 |.lst xs=>xs.length<=sizeLine/\∃(its:List Value) (n:Nat),Vals xs its/\h.get? a=some {cls:=.type "list",data:=.seq its.toArray n}
 |.tup xs=>xs.length<=sizeLine/\∃its:List Value,Vals xs its/\IsTup h a its.toArray
 |.dK kvs=>kvs.length<=sizeLine/\(a==sysModules)=false/\∃vs,KV kvs vs/\h.DictOf (Zj6 P w) a vs
 |.dT kvs=>kvs.length<=sizeLine/\(a==sysModules)=false/\∃xs:List (List Key×Addr×Value),
   Paired (λ(p:List Key×V) (q:List Key×Addr×Value)=>p.1=q.1/\H q.2.1=some (.tup (p.1.map kV))/\RelV p.2 q.2.2) kvs xs /\
   ∃o es ep,h.get? a=some o/\o.ExactDict/\o.data=.dict es ep/\es.toList=xs.map (entryOfKey (tupleKind (Zj6 P w)))/\(xs.map (·.1)).Nodup
 |.set S n=>h.SetOf (intKind P w) a S n
 |.ins C dx fs=>H dx=some (.own a)/\fs.length<=1000/\dx≠a/\h.get? a=some (PySem.W.instObj C dx) /\
   ∃mA,h.Ns1 dx mA/\(∀f,RelO (fs.lookup f) (mA f))/\PySem.Within mA (fs.map (·.1))
 |.own _=>∃o,h.get? a=some o
 |.xd fs=>∃mA,h.Ns1 a mA/\∀f,RelO (fs.lookup f) (mA f)
 |.rng lo hi=>∃t u v,h.get? a=some {cls:=.type "range",data:=.fields #[.int lo t,.int hi u,.int 1 v]}
 |.frz o u=>h.get? a=some o/\Zas H h a u
 |.tbl ps=>∃ts:Array Value,h.get? a=some {cls:=.none,data:=.fields ts}/\TriplesOk ts.toList/\∀pos cv,codeAmong pos ts.toList=some cv->∃c oc vs q t t',cv=.ref c/\H c=some (.frz oc (.own a))/\oc.data=.fields vs/\ps[0]?=some (.str q t)/\vs[1]?=some (.str q t')
 |.met f x=>h.get? a=some (PySem.W.methodObj (.ref f) (.ref x))
 |.ext φ=>φ h/\(∃o,h.get? a=some o)/\∀h1 h2:Heap,φ h1->(∀o,h1.get? a=some o->h2.get? a=some o)->φ h2
noncomputable def HOk (H:Hp) (h:Heap):Prop:=∀a o,H a=some o->Zas P w H h a o
end
section
variable {P:Program}{w:World}{H H':Hp}{h h':Heap}{a:Addr}{o:HO}
theorem Zas.lt (x:Zas P w H h a o):a<h.objs.size:=by
 cases o with
 |lst xs=>obtain⟨_,_,_,_,e⟩:=x;exact Yi e
 |tup xs=>obtain⟨_,_,_,p⟩:=x;exact p.lt
 |dK kvs=>obtain⟨_,_,_,_,o,_,_,e,_⟩:=x;exact Yi e
 |dT kvs=>obtain⟨_,_,_,_,o,_,_,e,_⟩:=x;exact Yi e
 |set S n=>obtain⟨o,_,_,_,e,_⟩:=x;exact Yi e
 |ins C dx fs=>obtain⟨_,_,_,e,_⟩:=x;exact Yi e
 |own y=>obtain⟨_,e⟩:=x;exact Yi e
 |xd fs=>obtain⟨_,⟨_,_,_,e,_⟩,_⟩:=x;exact Yi e
 |rng lo hi=>obtain⟨_,_,_,e⟩:=x;exact Yi e
 |frz ob u=>obtain⟨e,_⟩:=x;exact Yi e
 |tbl ps=>obtain⟨_,e,_⟩:=x;exact Yi e
 |met f y=>exact Yi (show h.get? a=some _ from x)
 |ext φ=>obtain⟨_,⟨_,e⟩,_⟩:=x;exact Yi e
theorem Paired.mapP {α β:Type}{F G:α->β->Prop}:∀{l₁:List α}{l₂:List β},Paired F l₁ l₂->(∀a b,F a b->G a b)->Paired G l₁ l₂
 |_,_,.nil,_=>.nil
 |_,_,.cons r t,f=>.cons (f _ _ r) (Paired.mapP t f)
theorem Zas.ZhC (x:Zas P w H h a o) (k:∀b u,(b=a\/H b=some (.own a))->h.get? b=some u->h'.get? b=some u)
  (ho:∀b,H b=some (.own a)->H' b=some (.own a)) (ht:∀b xs,H b=some (.tup xs)->H' b=some (.tup xs)) (hz:∀b o u,H b=some (.frz o u)->H' b=some (.frz o u)):Zas P w H' h' a o:=by
 induction o with
 |lst xs=>obtain⟨z,its,n,r,e⟩:=x;exact⟨z,its,n,r,k _ _ (.inl rfl) e⟩
 |tup xs=>obtain⟨z,its,r,ob,e,c⟩:=x;exact⟨z,its,r,ob,k _ _ (.inl rfl) e,c⟩
 |dK kvs=>obtain⟨z,y,vs,r,ob,es,ep,e,c⟩:=x;exact⟨z,y,vs,r,ob,es,ep,k _ _ (.inl rfl) e,c⟩
 |dT kvs =>
  obtain⟨z,y,xs,r,ob,es,ep,e,c⟩:=x
  exact⟨z,y,xs,Paired.mapP r λp q z=>⟨z.1,ht _ _ z.2.1,z.2.2⟩,ob,es,ep,k _ _ (.inl rfl) e,c⟩
 |set S n=>obtain⟨ob,es,ep,t,e,c⟩:=x;exact⟨ob,es,ep,t,k _ _ (.inl rfl) e,c⟩
 |ins C dx fs =>
  obtain⟨d,z,ne,e,mA,⟨od,es,ep,e2,c⟩,r⟩:=x
  exact⟨ho _ d,z,ne,k _ _ (.inl rfl) e,mA,⟨od,es,ep,k _ _ (.inr d) e2,c⟩,r⟩
 |own y=>obtain⟨ob,e⟩:=x;exact⟨ob,k _ _ (.inl rfl) e⟩
 |xd fs=>obtain⟨mA,⟨od,es,ep,e,c⟩,r⟩:=x;exact⟨mA,⟨od,es,ep,k _ _ (.inl rfl) e,c⟩,r⟩
 |rng lo hi=>obtain⟨t,u,v,e⟩:=x;exact⟨t,u,v,k _ _ (.inl rfl) e⟩
 |frz ob u ih=>obtain⟨e,q⟩:=x;exact⟨k _ _ (.inl rfl) e,ih q⟩
 |tbl ps =>
  obtain⟨ts,e,t3,z⟩:=x
  refine⟨ts,k a _ (.inl rfl) e,t3,λpos cv hc=>?_⟩
  obtain⟨c,oc,vs,q,t,t',e1,e2,r⟩:=z pos cv hc
  exact⟨c,oc,vs,q,t,t',e1,hz _ _ _ e2,r⟩
 |met f y =>
  have e:h.get? a=some (PySem.W.methodObj (.ref f) (.ref y)):=x
  show h'.get? a=some (PySem.W.methodObj (.ref f) (.ref y))
  exact k a _ (.inl rfl) e
 |ext φ=>obtain⟨p,⟨o,e⟩,st⟩:=x;exact⟨st _ _ p λo q=>k _ _ (.inl rfl) q,⟨o,k _ _ (.inl rfl) e⟩,st⟩
theorem HOk.lt (x:HOk P w H h) (e:H a=some o):a<h.objs.size:=(x a o e).lt
theorem HOk.fresh (x:HOk P w H h) (e:h.objs.size<=a):H a=none:=by
 cases q:H a with
 |none=>rfl
 |some u=>exact absurd (Yw (x.lt q) e) (YE _)
theorem HOk.kept (x:HOk P w H h) (k:∀b u,h.get? b=some u->h'.get? b=some u):HOk P w H h':=λa o e =>
 (x a o e).ZhC (λb u _ q=>k b u q) (λ_ q=>q) (λ_ _ q=>q) λ_ _ _ q=>q
theorem HOk.laid (x:HOk P w H h) (k:∀b u,h.get? b=some u->h'.get? b=some u) (hp:h.objs.size<=a) (new:Zas P w (upd H a o) h' a o):HOk P w (upd H a o) h':=λb u e=>by
 have hn:=x.fresh hp
 by_cases hb:b=a
 ·subst hb;rw[Zb]at e;cases e;exact new
 ·rw[Zq hb]at e
  exact(x b u e).ZhC (λc v _ q=>k c v q) (λc q=>by rw[Zq (ZV q hn)];exact q) (λc xs q=>by rw[Zq (ZV q hn)];exact q) λc o u q=>by rw[Zq (ZV q hn)];exact q
end
noncomputable def Rd (H:Hp) (a:Addr) (u:HO):Prop:=H a=some u\/∃o,H a=some (.frz o u)
theorem Rd.ok {P:Program}{w:World}{H:Hp}{h:Heap}{a:Addr}{u:HO} (r:Rd H a u) (x:HOk P w H h):Zas P w H h a u:=by
 rcases r with r|⟨o,r⟩
 ·exact x a u r
 ·obtain⟨_,q⟩:=x a _ r
  exact q
noncomputable def Mut:Option HO->Prop
 |some (.lst _)=>True
 |some (.dK _)=>True
 |some (.dT _)=>True
 |some (.set _ _)=>True
 |some (.ins _ _ _)=>True
 |some (.ext _)=>True
 |_=>False
section
variable {P:Program}{w:World}{H:Hp}{h h':Heap}{x e:Addr}{o':HO}
theorem HOk.write (ok:HOk P w H h) (mu:Mut (H x)) (he:e=x\/H e=some (.own x)) (k:∀b u,b≠e->h.get? b=some u->h'.get? b=some u) (heo:∃u,h'.get? e=some u)
  (new:Zas P w (upd H x o') h' x o'):HOk P w (upd H x o') h':=λb u q=>by
 have nown:∀c y,H c=some (.own y)->c≠x:=λc y r z=>by subst z;rw[r]at mu;exact mu
 have ntup:∀c xs,H c=some (.tup xs)->c≠x:=λc xs r z=>by subst z;rw[r]at mu;exact mu
 have nfrz:∀c o u,H c=some (.frz o u)->c≠x:=λc o u r z=>by subst z;rw[r]at mu;exact mu
 by_cases hb:b=x
 ·subst hb;rw[Zb]at q;cases q;exact new
 ·rw[Zq hb]at q
  by_cases hbe:b=e
  ·have q':H b=some (.own x):=by
    rcases he with z|z
    ·exact absurd (hbe.trans z) hb
    ·rw[hbe];exact z
   rw[q]at q';cases q'
   obtain⟨v,hv⟩:=heo
   exact⟨v,by rw[hbe];exact hv⟩
  ·refine(ok b u q).ZhC (λc v hc r=>k c v ?_ r) (λc r=>by rw[Zq (nown c b r)];exact r) (λc xs r=>by rw[Zq (ntup c xs r)];exact r) λc o u r=>by rw[Zq (nfrz c o u r)];exact r
   rcases hc with rfl|hc
   ·exact hbe
   ·rintro rfl
    rcases he with z|z
    ·exact nown c b hc z
    ·rw[hc]at z;cases z;exact hb rfl
end
structure Un (fs ex:List Addr) (H H':Hp) (h h':Heap):Prop where
 keep:∀b o,h.get? b=some o->H b=none->b∉fs->b∉ex->h'.get? b=some o
 slot:∀b o,h.get? b=some o->H b=none->b∈fs->b∉ex->∃sl,h'.get? b=some {o with slots:=sl}
 free:∀b o,h.get? b=some o->H b=none->b∉ex->H' b=none
 there:∀b o,h.get? b=some o->b∉ex->∃o',h'.get? b=some o'
 tups:∀b xs,H b=some (.tup xs)->H' b=some (.tup xs)
 frzs:∀b o u,H b=some (.frz o u)->H' b=some (.frz o u)
 tbls:∀b ps,H b=some (.tbl ps)->∃more,H' b=some (.tbl (ps++more))
section
variable {fs fs' ex ex':List Addr}{H H1 H2:Hp}{h h1 h2 h':Heap}{a x e:Addr}{o:HO}
theorem Un.any (u:Un fs ex H H1 h h1) {b:Addr}{ob:Obj} (q:h.get? b=some ob) (n:H b=none) (hx:b∉ex):∃sl,h1.get? b=some {ob with slots:=sl}:=by
 by_cases hb:b∈fs
 ·exact u.slot b ob q n hb hx
 ·exact⟨ob.slots,u.keep b ob q n hb hx⟩
theorem Un.kept (k:∀b u,h.get? b=some u->h'.get? b=some u):Un fs ex H H h h' :=
 ⟨λb ob q _ _ _=>k b ob q,λb ob q _ _ _=>⟨ob.slots,k b ob q⟩,λ_ _ _ n _=>n,λb ob q _=>⟨ob,k b ob q⟩,λ_ _ q=>q,λ_ _ _ q=>q,λ_ ps q=>⟨#[],by rw[q];simp⟩⟩
theorem Un.refl:Un fs ex H H h h:=Un.kept λ_ _ q=>q
theorem Un.laid (k:∀b u,h.get? b=some u->h'.get? b=some u) (hp:h.objs.size<=a) (hn:H a=none):Un fs ex H (upd H a o) h h' where
 keep:=λb u q _ _ _=>k b u q
 slot:=λb u q _ _ _=>⟨u.slots,k b u q⟩
 free:=λb u q n _=>by rw[Zq (Yv (Yw (Yi q) hp))];exact n
 there:=λb u q _=>⟨u,k b u q⟩
 tups:=λb xs q=>by rw[Zq (ZV q hn)];exact q
 frzs:=λb u xs q=>by rw[Zq (ZV q hn)];exact q
 tbls:=λb ps q=>⟨#[],by rw[Zq (ZV q hn),q];simp⟩
theorem Un.write (mu:Mut (H x)) (he:e=x\/H e=some (.own x)) (k:∀b u,b≠e->h.get? b=some u->h'.get? b=some u) (heo:∃u,h'.get? e=some u):Un fs ex H (upd H x o) h h':=by
 have hx:∀b,H b=none->b≠x:=λb n z=>by subst z;rw[n]at mu;exact mu
 have hb:∀b,H b=none->b≠e:=λb n z=>by
  subst z
  rcases he with r|r
  ·exact hx b n r
  ·rw[n]at r;cases r
 have hm:∀b u,H b=some u->¬ Mut (some u)->b≠x:=λb u q nm z=>by subst z;rw[q]at mu;exact nm mu
 refine⟨λb u q n _ _=>k b u (hb b n) q,λb u q n _ _=>⟨u.slots,k b u (hb b n) q⟩,λb u q n _=>by rw[Zq (hx b n)];exact n,λb u q _=>?_,
  λb xs q=>by rw[Zq (hm b _ q λz=>z)];exact q,λb u xs q=>by rw[Zq (hm b _ q λz=>z)];exact q,λb ps q=>⟨#[],by rw[Zq (hm b _ q λz=>z),q];simp⟩⟩
 by_cases hbe:b=e
 ·subst hbe;exact heo
 ·exact⟨u,k b u hbe q⟩
end
noncomputable def trk (h:Heap) (H:Hp):List Addr:=(List.range h.objs.size).filter λa=>(H a).isSome
noncomputable def ZhD (h:Heap) (H:Hp):Heap:=PySem.W.hideAll h (trk h H)
theorem ZkG (h:Heap) (H:Hp):(ZhD h H).objs.size=h.objs.size:=PySem.W.hideAll_size _ _
theorem ZlN {h:Heap}{H:Hp}{b:Addr}{o:Obj} (e:h.get? b=some o) (n:H b=none):(ZhD h H).get? b=some o :=
 PySem.W.hideAll_get _ e λhm=>by
  have q:(H b).isSome=true:=(YL.mp hm).2
  rw[n]at q;simp at q
theorem Znx {h:Heap}{H:Hp}{b:Addr}{o:Obj} (e:(ZhD h H).get? b=some o):h.get? b=some o/\H b=none:=by
 have e':h.get? b=some o:=PySem.W.of_hideAll (trk h H) e
 refine⟨e',?_⟩
 cases q:H b with
 |none=>rfl
 |some x =>
  have hm:b∈trk h H:=YL.mpr ⟨YC.mpr (Yi e'),by simp[q]⟩
  have z:(ZhD h H).get? b=none:=PySem.W.hideAll_none (trk h H) hm
  rw[z]at e;cases e
noncomputable def Zny (g h:Heap) (L:Addr):List (Addr×Obj):=(List.range h.objs.size).filterMap λa=>if a=L\/(g.get? a).isSome=true then none else (h.get? a).map λo=>(a,o)
noncomputable def rest (g h:Heap) (L d:Addr):List (Addr×Obj):=(Zny g h L).filter λp=>decide (p.1≠d)
structure Mod (K:PySem.W.Frag) (mg:Str->Option Value) (base:Heap):Prop where
 kin:K.In base
 glob:base.Ns mainGlobals mg
 blt:∃mb,base.Ns builtinsNs mb/\∀x:Str,x≠"__name__"->mb x=bootBuiltins x
 nolimit:base.NoLimit
structure Cx where
 prog:Program
 w:World
 K:PySem.W.Frag
 mg:Str->Option Value
 base:Heap
 A:Around
 N:List Str
 s₀:Shared
 H₀:Hp
 env:Env
 outer:List Env
 stack:List Env
 ex:List Addr
 fn:Str->Bool
 calm:Bool
 pn:List (Addr×Obj)
 xe:Value->Shared->Prop
noncomputable def frs (l:List Env):List Addr:=l.filterMap (·.frame)
noncomputable abbrev Cx.fs (X:Cx):List Addr:=frs X.outer
noncomputable def Vis (sc:Scope) (x:Str):Prop:=sc.names.lookup x=some .local\/sc.names.lookup x=some .cell\/sc.names.lookup x=some .free
noncomputable def Loc (sc:Scope) (x:Str):Prop:=sc.names.lookup x=some .local\/sc.names.lookup x=some .cell
noncomputable def Look (env:Env) (h:Heap) (m:Str->Option Value) (x:Str) (u:Value):Prop :=
 (env.kindOf x=some .local/\m x=some u)\/((env.kindOf x=some .cell\/env.kindOf x=some .free)/\∃c,env.cells.lookup x=some c/\h.IsCell c (some u))
structure Cx.Ok (X:Cx):Prop where
 mod:Mod X.K X.mg X.base
 kind:X.env.scope.kind=.function
 glob:X.env.globals=mainGlobals
 blt:X.env.builtins=builtinsNs
 above:X.s₀.heap.objs.size<=X.env.locals
 inj:∀x y c,X.env.cells.lookup x=some c->X.env.cells.lookup y=some c->x=y
 has:∀x,(X.env.kindOf x=some .cell\/X.env.kindOf x=some .free)->∃c,X.env.cells.lookup x=some c
 cab:∀x c,X.fn x=true->X.env.cells.lookup x=some c->X.s₀.heap.objs.size<=c
 hd:X.calm=true->X.A.handled=none
 frames:X.A.frames=some X.stack
 stk:X.stack=X.outer\/(X.stack=X.env::X.outer/\X.env.frame=some X.env.locals)
 exf:∀b∈X.ex,b≠X.env.locals/\∀x c,X.env.cells.lookup x=some c->c≠b
 bs:∀b o,X.base.get? b=some o->X.s₀.heap.get? b=some o/\X.H₀ b=none
 bsz:X.base.objs.size<=X.s₀.heap.objs.size
 noex:∀b o,X.base.get? b=some o->b∉X.ex
 exfs:∀b∈X.ex,b∉X.fs
 funs:X.s₀.heap.FunFrames X.base X.outer
 frf:∀b∈X.fs,X.H₀ b=none
structure Inv (X:Cx) (pins:List (Addr×Obj)) (σ:List (Option V)) (H:Hp) (s:Shared):Prop where
 ok:X.Ok
 os:s.os=X.s₀.os
 bare:AllBare s.gens
 base:Un X.fs X.ex X.H₀ H X.s₀.heap s.heap
 loc:∃m,s.heap.Ns X.env.locals m/\∀(i:Nat) (x:Str) (v:V),X.N[i]?=some x->σ[i]?=some (some v)->Vis X.env.scope x->∃u,RelV v u/\Look X.env s.heap m x u
 cell:∀x c,X.env.cells.lookup x=some c->∃v,s.heap.IsCell c v
 free:H X.env.locals=none
 freeC:∀x c,X.env.cells.lookup x=some c->H c=none
 pin:∀p∈X.pn++pins,s.heap.get? p.1=some p.2/\H p.1=none/\p.1≠X.env.locals/\p.1∉X.fs/\∀v,p.2.data≠.cell v
 hok:HOk X.prog X.w H s.heap
 len:σ.length=X.N.length
section
variable {X:Cx}{pins:List (Addr×Obj)}{σ:List (Option V)}{H H':Hp}{s:Shared}{h':Heap}
theorem Cx.Ok.nofr (ok:X.Ok) {b:Addr}{o:Obj} (e:X.base.get? b=some o):b∉X.fs:=λhb=>by
 have:=(ok.funs.mem hb).1
 rw[e]at this;cases this
theorem Inv.bs (I:Inv X pins σ H s):∀b o,X.base.get? b=some o->s.heap.get? b=some o/\H b=none:=λb o e =>
 ⟨I.base.keep b o (I.ok.bs b o e).1 (I.ok.bs b o e).2 (I.ok.nofr e) (I.ok.noex b o e),I.base.free b o (I.ok.bs b o e).1 (I.ok.bs b o e).2 (I.ok.noex b o e)⟩
theorem Inv.bk (I:Inv X pins σ H s):∀b o,X.base.get? b=some o->s.heap.get? b=some o:=λb o e=>(I.bs b o e).1
theorem Inv.mod (I:Inv X pins σ H s):Mod X.K X.mg X.base:=I.ok.mod
theorem Inv.kIn (I:Inv X pins σ H s):X.K.In s.heap:=I.ok.mod.kin.keeps I.bk
theorem Inv.lt (I:Inv X pins σ H s):X.env.locals<s.heap.objs.size:=let ⟨_,hn,_⟩:=I.loc;hn.lt
theorem Inv.sz (I:Inv X pins σ H s):X.s₀.heap.objs.size<=s.heap.objs.size:=Yh I.ok.above (YY I.lt)
theorem Inv.nofs (I:Inv X pins σ H s) {a:Addr} (h:s.heap.objs.size<=a):a∉X.fs:=λhb=>by
 obtain⟨_,o,ho,_⟩:=I.ok.funs.mem hb
 exact absurd (Yw (Yi ho) (Yh I.sz h)) (YE _)
theorem Inv.cne (I:Inv X pins σ H s):∀x c,X.env.cells.lookup x=some c->c≠X.env.locals:=λx c e z=>by
 obtain⟨v,o,ho,hd⟩:=I.cell x c e
 obtain⟨m,⟨o',es,ep,ho',hd',_⟩,_⟩:=I.loc
 rw[z,ho']at ho;cases ho;rw[hd']at hd;cases hd
theorem Inv.funs (I:Inv X pins σ H s):s.heap.FunFrames X.base X.outer:=by
 have all:∀(l:List Env),(∀b∈frs l,b∈X.fs)->X.s₀.heap.FunFrames X.base l->s.heap.FunFrames X.base l:=by
  intro l
  induction l with
  |nil=>intro _ _;trivial
  |cons env r ih =>
   intro hs hl
   obtain⟨hk,⟨L,o,hf,hn,ho,hd⟩,hr⟩:=hl
   have hL:L∈X.fs:=hs L (by unfold frs;rw[List.filterMap_cons,hf];exact YH)
   obtain⟨sl,e⟩:=I.base.slot L o ho (I.ok.frf L hL) hL λz=>I.ok.exfs L z hL
   exact⟨hk,⟨L,_,hf,hn,e,hd⟩,ih (λb hb=>hs b (by unfold frs;rw[List.filterMap_cons,hf];exact YM _ hb)) hr⟩
 exact all X.outer (λ_ hb=>hb) I.ok.funs
theorem Inv.stack (I:Inv X pins σ H s):s.heap.FunFrames X.base X.stack:=by
 rcases I.ok.stk with e|⟨e,hf⟩
 ·rw[e];exact I.funs
 ·rw[e]
  obtain⟨m,hn,_⟩:=I.loc
  refine .cons (by rw[I.ok.kind];decide) hf hn ?_ I.funs
  exact Heap.get?_none_of_le (Yh I.ok.bsz I.ok.above)
theorem Inv.Zfn (I:Inv X pins σ H s):∀b∈frs X.stack,b∈X.env.locals::X.fs:=λb hb=>by
 rcases I.ok.stk with e|⟨e,hf⟩
 ·rw[e]at hb;exact YM _ hb
 ·rw[e]at hb
  unfold frs at hb
  rw[List.filterMap_cons,hf]at hb
  exact hb
theorem Inv.ZhE (I:Inv X pins σ H s):∀b∈frs X.stack,H b=none:=λb hb=>by
 rcases Yk.mp (I.Zfn b hb)with e|hb
 ·rw[e];exact I.free
 ·obtain⟨_,o,ho,_⟩:=I.ok.funs.mem hb
  exact I.base.free b o ho (I.ok.frf b hb) λz=>I.ok.exfs b z hb
theorem Inv.step {g':Array GenState}{t':Nat}{d':Drawn}{ch:List Addr} (I:Inv X pins σ H s)
  (hch:∀b∈ch,(b∈X.ex\/X.s₀.heap.objs.size<=b)/\b≠X.env.locals/\(∀x c,X.env.cells.lookup x=some c->c≠b)/\∀p∈X.pn++pins,p.1≠b)
  (keep:∀b o,b≠X.env.locals->b∉X.fs->b∉ch->s.heap.get? b=some o->H b=none->h'.get? b=some o)
  (slot:∀b o,b≠X.env.locals->b∈X.fs->b∉ch->s.heap.get? b=some o->H b=none->∃sl,h'.get? b=some {o with slots:=sl}) (free:∀b o,b∉ch->s.heap.get? b=some o->H b=none->H' b=none)
  (there:∀b o,b∉ch->s.heap.get? b=some o->∃o',h'.get? b=some o')
  (tups:∀b xs,H b=some (.tup xs)->H' b=some (.tup xs)) (frzs:∀b o u,H b=some (.frz o u)->H' b=some (.frz o u)) (tbls:∀b ps,H b=some (.tbl ps)->∃more,H' b=some (.tbl (ps++more)))
  (ns:∀m,s.heap.Ns X.env.locals m->h'.Ns X.env.locals m) (hok:HOk X.prog X.w H' h') (hg:AllBare g') :
  Inv X pins σ H' {s with heap:=h',gens:=g',drawn:=d',toks:=t'}:=by
 have neL:∀b o,X.s₀.heap.get? b=some o->b≠X.env.locals:=λb o e=>Yv (Yw (Yi e) I.ok.above)
 have neC:∀b o,X.s₀.heap.get? b=some o->b∉X.ex->b∉ch:=λb o e hx hb=>by
  rcases(hch b hb).1 with z|z
  ·exact hx z
  ·exact absurd (Yw (Yi e) z) (YE _)
 have cellK:∀x c,X.env.cells.lookup x=some c->∀v,s.heap.IsCell c v->h'.IsCell c v:=λx c e v ⟨o,ho,hd⟩=>by
  have nch:c∉ch:=λz=>(hch c z).2.2.1 x c e rfl
  by_cases hc:c∈X.fs
  ·obtain⟨sl,q⟩:=slot c o (I.cne x c e) hc nch ho (I.freeC x c e)
   exact⟨_,q,hd⟩
  ·exact⟨o,keep c o (I.cne x c e) hc nch ho (I.freeC x c e),hd⟩
 refine⟨I.ok,I.os,hg,⟨λb o e n hb hx=>?_,λb o e n hb hx=>?_,λb o e n hx=>?_,λb o e hx=>?_,λb xs e=>tups b xs (I.base.tups b xs e),λb o xs e=>frzs b o xs (I.base.frzs b o xs e),λb ps e=>?_⟩,?_,λx c e=>?_,?_,λx c e=>?_,λp hp=>?_,hok,I.len⟩
 ·exact keep b o (neL b o e) hb (neC b o e hx) (I.base.keep b o e n hb hx) (I.base.free b o e n hx)
 ·obtain⟨sl,e1⟩:=I.base.slot b o e n hb hx
  obtain⟨sl',e2⟩:=slot b _ (neL b o e) hb (neC b o e hx) e1 (I.base.free b o e n hx)
  exact⟨sl',e2⟩
 ·obtain⟨o',e1⟩:=I.base.there b o e hx
  exact free b o' (neC b o e hx) e1 (I.base.free b o e n hx)
 ·obtain⟨o',e1⟩:=I.base.there b o e hx
  exact there b o' (neC b o e hx) e1
 ·obtain⟨m1,e1⟩:=I.base.tbls b ps e
  obtain⟨m2,e2⟩:=tbls b _ e1
  exact⟨m1++m2,by rw[e2,Array.append_assoc]⟩
 ·obtain⟨m,hn,hl⟩:=I.loc
  refine⟨m,ns m hn,λi x v e1 e2 e3=>?_⟩
  obtain⟨u,r,l⟩:=hl i x v e1 e2 e3
  refine⟨u,r,?_⟩
  rcases l with l|⟨k,c,e,z⟩
  ·exact .inl l
  ·exact .inr ⟨k,c,e,cellK x c e _ z⟩
 ·obtain⟨v,z⟩:=I.cell x c e
  exact⟨v,cellK x c e v z⟩
 ·obtain⟨m,⟨o,_,_,ho,_⟩,_⟩:=I.loc
  exact free _ o (λz=>(hch _ z).2.1 rfl) ho I.free
 ·obtain⟨v,o,ho,hd⟩:=I.cell x c e
  exact free c o (λz=>(hch c z).2.2.1 x c e rfl) ho (I.freeC x c e)
 ·obtain⟨e,n,ne,nf,d⟩:=I.pin p hp
  have nch:p.1∉ch:=λz=>(hch p.1 z).2.2.2 p hp rfl
  exact⟨keep p.1 p.2 ne nf nch e n,free p.1 p.2 nch e n,ne,nf,d⟩
theorem Inv.un {t':Nat} (I:Inv X pins σ H s) (u:Un X.fs [] H H' s.heap h') (hok:HOk X.prog X.w H' h'):Inv X pins σ H' {s with heap:=h',toks:=t'}:=by
 obtain⟨m,⟨o,es,ep,ho,r⟩,_⟩:=id I.loc
 obtain⟨sl,hL⟩:=u.any ho I.free (by simp)
 exact I.step (g':=s.gens) (d':=s.drawn) (ch:=[]) (λ_ z=>nomatch z) (λb o _ hb _ e n=>u.keep b o e n hb (by simp)) (λb o _ hb _ e n=>u.slot b o e n hb (by simp)) (λb o _ e n=>u.free b o e n (by simp)) (λb o _ e=>u.there b o e (by simp)) u.tups u.frzs u.tbls (λm' hm=>by
  obtain⟨o',es',ep',ho',r'⟩:=hm
  rw[ho]at ho';cases ho'
  exact⟨_,es',ep',hL,r'⟩) hok I.bare
theorem Inv.call {g':Array GenState}{t':Nat}{d':Drawn}{ch:List Addr} (I:Inv X pins σ H s) (u:Un (frs X.stack) ch H H' s.heap h') (hok:HOk X.prog X.w H' h') (hg:AllBare g')
  (hch:∀b∈ch,(b∈X.ex\/X.s₀.heap.objs.size<=b)/\b≠X.env.locals/\(∀x c,X.env.cells.lookup x=some c->c≠b)/\∀p∈X.pn++pins,p.1≠b) :
  Inv X pins σ H' {s with heap:=h',gens:=g',drawn:=d',toks:=t'}:=by
 obtain⟨m,⟨o,es,ep,ho,r⟩,_⟩:=id I.loc
 obtain⟨sl,hL⟩:=u.any ho I.free λz=>(hch _ z).2.1 rfl
 exact I.step (ch:=ch) hch (λb o hL hb hc e n=>u.keep b o e n (λz=>(Yk.mp (I.Zfn b z)).elim hL hb) hc) (λb o _ _ hc e n=>u.any e n hc) (λb o hc e n=>u.free b o e n hc) (λb o hc e=>u.there b o e hc) u.tups u.frzs u.tbls (λm' hm=>by
  obtain⟨o',es',ep',ho',r'⟩:=hm
  rw[ho]at ho';cases ho'
  exact⟨_,es',ep',hL,r'⟩) hok hg
theorem Inv.turned {t':Nat}{it:Addr} (I:Inv X pins σ H s) (k:∀b o,b≠it->s.heap.get? b=some o->h'.get? b=some o) (hn:H it=none) (hL:it≠X.env.locals)
  (h1:it∈X.ex\/X.s₀.heap.objs.size<=it) (h2:∀x c,X.env.cells.lookup x=some c->c≠it) (h3:∀p∈X.pn++pins,p.1≠it):Inv X pins σ H {s with heap:=h',toks:=t'}:=by
 have nit:∀b u,H b=some u->b≠it:=λb u e z=>by rw[z,hn]at e;cases e
 refine I.step (g':=s.gens) (d':=s.drawn) (ch:=[it]) (λb hb=>?_) (λb o _ _ hc e _=>k b o (λz=>hc (by simp[z])) e) (λb o _ _ hc e _=>⟨o.slots,k b o (λz=>hc (by simp[z])) e⟩) (λ_ _ _ _ n=>n)
  (λb o hc e=>⟨o,k b o (λz=>hc (by simp[z])) e⟩) (λ_ _ e=>e) (λ_ _ _ e=>e) (λb ps e=>⟨#[],by rw[e];simp⟩) (λm hm=>?_) (λb u e=>?_) I.bare
 ·have e:b=it:=by simpa using hb
  subst e
  exact⟨h1,hL,h2,h3⟩
 ·obtain⟨o,es,ep,ho,r⟩:=hm
  exact⟨o,es,ep,k _ o (Ne.symm hL) ho,r⟩
 ·refine(I.hok b u e).ZhC (λc v hc q=>k c v ?_ q) (λ_ q=>q) (λ_ _ q=>q) λ_ _ _ q=>q
  rcases hc with z|z
  ·rw[z];exact nit b u e
  ·exact nit c _ z
theorem Inv.tok (I:Inv X pins σ H s) (t:Nat):Inv X pins σ H {s with toks:=t}:=I.un (h':=s.heap) (t':=t) Un.refl I.hok
theorem Inv.kept {t':Nat} (I:Inv X pins σ H s) (k:∀b u,s.heap.get? b=some u->h'.get? b=some u):Inv X pins σ H {s with heap:=h',toks:=t'}:=I.un (Un.kept k) (I.hok.kept k)
theorem Inv.laid {a:Addr}{o:HO}{t':Nat} (I:Inv X pins σ H s) (k:∀b u,s.heap.get? b=some u->h'.get? b=some u) (hp:s.heap.objs.size<=a) (new:Zas X.prog X.w (upd H a o) h' a o) :
  Inv X pins σ (upd H a o) {s with heap:=h',toks:=t'}:=I.un (Un.laid k hp (I.hok.fresh hp)) (I.hok.laid k hp new)
theorem Inv.write {x e:Addr}{o:HO}{t':Nat} (I:Inv X pins σ H s) (mu:Mut (H x)) (he:e=x\/H e=some (.own x)) (k:∀b u,b≠e->s.heap.get? b=some u->h'.get? b=some u) (heo:∃u,h'.get? e=some u)
  (new:Zas X.prog X.w (upd H x o) h' x o):Inv X pins σ (upd H x o) {s with heap:=h',toks:=t'}:=I.un (Un.write mu he k heo) (I.hok.write mu he k heo new)
theorem Inv.weak {σ':List (Option V)} (I:Inv X pins σ H s) (hl:σ'.length=σ.length) (w:∀(i:Nat) v,σ'[i]?=some (some v)->σ[i]?=some (some v)):Inv X pins σ' H s :=
 ⟨I.ok,I.os,I.bare,I.base,let ⟨m,hn,hl'⟩:=I.loc;⟨m,hn,λi x v e1 e2 e3=>hl' i x v e1 (w i v e2) e3⟩,I.cell,I.free,I.freeC,I.pin,I.hok,hl.trans I.len⟩
theorem Inv.Ze0 {pins':List (Addr×Obj)} (I:Inv X pins σ H s) (h:∀p∈pins',s.heap.get? p.1=some p.2/\H p.1=none/\p.1≠X.env.locals/\p.1∉X.fs/\∀v,p.2.data≠.cell v):Inv X pins' σ H s :=
 ⟨I.ok,I.os,I.bare,I.base,I.loc,I.cell,I.free,I.freeC,λp hp=>(Yl.mp hp).elim (λz=>I.pin p (YF _ z)) (h p),I.hok,I.len⟩
theorem Zin {N:List Str} (hN:N.Nodup) {i j:Nat}{x:Str} (a:N[i]?=some x) (b:N[j]?=some x):i=j:=by
 obtain⟨h1,e1⟩:=Yn.mp a
 obtain⟨h2,e2⟩:=Yn.mp b
 exact(List.getElem_inj hN).mp (e1.trans e2.symm)
theorem ZkH {M:Model}{A:Around}{E:Value->Shared->Prop}{i:Nat}{x:Str}{v:V}{u:Value}{Q:Unit->Shared->Prop} (I:Inv X pins σ H s) (hN:X.N.Nodup) (hi:X.N[i]?=some x) (hx:Loc X.env.scope x) (r:RelV v u)
  (h:∀s',Inv X pins (σ.set i (some v)) H s'->(∃a,Heap.SameBut a s.heap s'.heap/\(a=X.env.locals\/X.env.cells.lookup x=some a))->Q () s') (hf:X.fn x=true\/X.env.scope.names.lookup x=some .local:=by first|exact .inl rfl|exact .inr rfl|assumption):wpAny M A (storeName X.env x u) Q E s:=by
 obtain⟨m,hn,hl⟩:=id I.loc
 have hcls:(X.env.scope.kind==.class||(X.env.scope.kind==.module&&X.env.locals != X.env.globals))=false:=by rw[I.ok.kind];rfl
 have hiσ:i < σ.length:=by rw[I.len];exact(Yn.mp hi).1
 have cne:=I.cne
 have tracked:∀{a:Addr}{h':Heap},(∃o,s.heap.get? a=some o/\H a=none)->Heap.SameBut a s.heap h'->HOk X.prog X.w H h':=λ{a h'} ha hs b ob e=>by
  obtain⟨_,_,hfree⟩:=ha
  refine(I.hok b ob e).ZhC (λc w' hc q=>(hs.2 c ?_).trans q) (λ_ q=>q) (λ_ _ q=>q) λ_ _ _ q=>q
  rintro rfl
  rcases hc with rfl|hc
  ·rw[hfree]at e;cases e
  ·rw[hfree]at hc;cases hc
 rcases hx with hk|hk
 ·refine wpAny_storeName_local hk hn (λh' hn' hs=>?_) hcls
  obtain⟨oL,_,_,hoL,_⟩:=id hn
  refine h _ ⟨I.ok,I.os,I.bare,⟨λb o e n hb hx=>?_,λb o e n hb hx=>?_,I.base.free,λb o e hx=>?_,I.base.tups,I.base.frzs,I.base.tbls⟩,⟨_,hn',λj y v' e1 e2 e3=>?_⟩,λy c e=>?_,I.free,I.freeC,λp hp=>?_,tracked ⟨oL,hoL,I.free⟩ hs,by simpa using I.len⟩ ⟨_,hs,.inl rfl⟩
  ·exact(hs.2 b (Yv (Yw (Yi e) I.ok.above))).trans (I.base.keep b o e n hb hx)
  ·obtain⟨sl,e1⟩:=I.base.slot b o e n hb hx
   exact⟨sl,(hs.2 b (Yv (Yw (Yi e) I.ok.above))).trans e1⟩
  ·obtain⟨o',e1⟩:=I.base.there b o e hx
   exact⟨o',(hs.2 b (Yv (Yw (Yi e) I.ok.above))).trans e1⟩
  ·by_cases hj:j=i
   ·subst hj
    rw[hi]at e1;cases e1
    rw[List.getElem?_set_self hiσ]at e2
    cases e2
    exact⟨u,r,.inl ⟨hk,by simp⟩⟩
   ·rw[List.getElem?_set_ne (Ne.symm hj)]at e2
    obtain⟨u',r',q⟩:=hl j y v' e1 e2 e3
    refine⟨u',r',?_⟩
    rcases q with⟨k,e⟩|⟨k,c,e,z⟩
    ·refine .inl ⟨k,?_⟩
     have:y≠x:=λe=>hj (Zin hN e1 (e▸hi))
     simp[this,e]
    ·exact .inr ⟨k,c,e,z.sameBut hs (cne y c e)⟩
  ·obtain⟨w',z⟩:=I.cell y c e
   exact⟨w',z.sameBut hs (cne y c e)⟩
  ·obtain⟨e,n,ne,nf,d⟩:=I.pin p hp
   exact⟨(hs.2 p.1 ne).trans e,n,ne,nf,d⟩
 ·have hfn:X.fn x=true:=by
   rcases hf with z|z
   ·exact z
   ·rw[z]at hk;cases hk
  obtain⟨c,hc⟩:=I.ok.has x (.inl hk)
  obtain⟨w',z⟩:=I.cell x c hc
  refine wpAny_storeName_cell I.ok.kind hk hc z (λh' hc' hs=>?_)
  obtain⟨oc,hoc,hocd⟩:=id z
  refine h {s with heap:=h'} ⟨I.ok,I.os,I.bare,⟨λb o e n hb hx=>?_,λb o e n hb hx=>?_,I.base.free,λb o e hx=>?_,I.base.tups,I.base.frzs,I.base.tbls⟩,⟨m,hn.sameBut hs (Ne.symm (cne x c hc)),λj y v' e1 e2 e3=>?_⟩,λy c' e=>?_,I.free,I.freeC,λp hp=>?_,tracked ⟨oc,hoc,I.freeC x c hc⟩ hs,by simpa using I.len⟩ ⟨c,hs,.inr hc⟩
  ·exact(hs.2 b (Yv (Yw (Yi e) (I.ok.cab x c hfn hc)))).trans (I.base.keep b o e n hb hx)
  ·obtain⟨sl,e1⟩:=I.base.slot b o e n hb hx
   exact⟨sl,(hs.2 b (Yv (Yw (Yi e) (I.ok.cab x c hfn hc)))).trans e1⟩
  ·obtain⟨o',e1⟩:=I.base.there b o e hx
   exact⟨o',(hs.2 b (Yv (Yw (Yi e) (I.ok.cab x c hfn hc)))).trans e1⟩
  ·by_cases hj:j=i
   ·subst hj
    rw[hi]at e1;cases e1
    rw[List.getElem?_set_self hiσ]at e2
    cases e2
    exact⟨u,r,.inr ⟨.inl hk,c,hc,hc'⟩⟩
   ·rw[List.getElem?_set_ne (Ne.symm hj)]at e2
    obtain⟨u',r',q⟩:=hl j y v' e1 e2 e3
    refine⟨u',r',?_⟩
    rcases q with q|⟨k,c',e,z'⟩
    ·exact .inl q
    ·refine .inr ⟨k,c',e,z'.sameBut hs ?_⟩
     rintro rfl
     exact hj (Zin hN e1 (I.ok.inj _ _ _ e hc▸hi))
  ·by_cases hcc:c'=c
   ·subst hcc;exact⟨_,hc'⟩
   ·obtain⟨w2,z2⟩:=I.cell y c' e
    exact⟨w2,z2.sameBut hs hcc⟩
  ·obtain⟨e,n,ne,nf,d⟩:=I.pin p hp
   refine⟨(hs.2 p.1 ?_).trans e,n,ne,nf,d⟩
   intro q
   rw[q,hoc]at e
   have q':oc=p.2:=Yx e
   exact d w' (by rw[<-q'];exact hocd)
theorem Zio {M:Model}{A:Around}{E:Value->Shared->Prop}{i:Nat}{x:Str}{v:V}{u:Value}{Q:Unit->Shared->Prop} (I:Inv X pins σ H s) (hN:X.N.Nodup) (hi:X.N[i]?=some x) (hx:Loc X.env.scope x) (r:RelV v u)
  (h:∀s',Inv X pins (σ.set i (some v)) H s'->Q () s') (hf:X.fn x=true\/X.env.scope.names.lookup x=some .local:=by first|exact .inl rfl|exact .inr rfl|assumption):wpAny M A (storeName X.env x u) Q E s :=
 ZkH I hN hi hx r (λs' I' _=>h s' I') hf
theorem Inv.call' {s':Shared}{ch:List Addr} (I:Inv X pins σ H s) (ho:s'.os=s.os) (u:Un (frs X.stack) ch H H' s.heap s'.heap) (hok:HOk X.prog X.w H' s'.heap) (hg:AllBare s'.gens)
  (hch:∀b∈ch,(b∈X.ex\/X.s₀.heap.objs.size<=b)/\b≠X.env.locals/\(∀x c,X.env.cells.lookup x=some c->c≠b)/\∀p∈X.pn++pins,p.1≠b):Inv X pins σ H' s':=by
 obtain⟨h',g',d',t',o'⟩:=s'
 have e:o'=s.os:=ho
 subst e
 exact I.call (g':=g') (t':=t') (d':=d') u hok hg hch
end
noncomputable abbrev XK:=Value->Option Addr->Hp->Prop
noncomputable abbrev St:=List (Option V)
noncomputable abbrev VK:=V->Hp->Prop
noncomputable abbrev TE:=St->Hp->VK->Prop
noncomputable abbrev TT:=St->Hp->(Bool->Hp->Prop)->Prop
noncomputable abbrev TA:=St->Hp->(List V->Hp->Prop)->Prop
structure Ends where
 nx:St->Hp->Prop
 rt:VK
 bk:St->Hp->Prop:=λ_ _=>False
 ct:St->Hp->Prop:=λ_ _=>False
noncomputable abbrev TS:=Ends->St->Hp->Prop
noncomputable def EP (X:Cx) (pins:List (Addr×Obj)) (σ:St) (Q:VK) (u:Value) (s':Shared):Prop:=∃v H',Inv X pins σ H' s'/\RelV v u/\Q v H'
noncomputable def TP (X:Cx) (pins:List (Addr×Obj)) (σ:St) (Q:Bool->Hp->Prop) (b:Bool) (s':Shared):Prop:=∃H',Inv X pins σ H' s'/\Q b H'
noncomputable def AP (X:Cx) (pins:List (Addr×Obj)) (σ:St) (Q:List V->Hp->Prop) (us:List Value) (s':Shared):Prop:=∃vs H',Inv X pins σ H' s'/\Vals vs us/\Q vs H'
noncomputable def SP (X:Cx) (pins:List (Addr×Obj)) (D:Ends) (f:Flow) (s':Shared):Prop :=
 match f with
 |.next=>∃σ' H',Inv X pins σ' H' s'/\D.nx σ' H'
 |.brk=>∃σ' H',Inv X pins σ' H' s'/\D.bk σ' H'
 |.cont=>∃σ' H',Inv X pins σ' H' s'/\D.ct σ' H'
 |.ret u=>∃v σ' H',Inv X pins σ' H' s'/\RelV v u/\D.rt v H'
noncomputable def PE (X:Cx) (e:Expr) (t:TE):Prop :=
 ∀(pins:List (Addr×Obj)) (s:Shared) (σ:St) (H:Hp) (Q:VK),Inv X pins σ H s->t σ H Q->wpAny (model X.prog X.w) X.A (eval e X.env) (EP X pins σ Q) X.xe s
noncomputable def PT (X:Cx) (e:Expr) (t:TT):Prop :=
 ∀(pins:List (Addr×Obj)) (s:Shared) (σ:St) (H:Hp) (Q:Bool->Hp->Prop),Inv X pins σ H s->t σ H Q->wpAny (model X.prog X.w) X.A (isTrue e X.env (eval e X.env)) (TP X pins σ Q) X.xe s
noncomputable def PW (X:Cx) (e:Expr) (t:TT):Prop :=
 ∀(whole:Sem Value) (pins:List (Addr×Obj)) (s:Shared) (σ:St) (H:Hp) (Q:Bool->Hp->Prop),Inv X pins σ H s->t σ H Q->wpAny (model X.prog X.w) X.A (isTrue e X.env whole) (TP X pins σ Q) X.xe s
theorem PW.pt {X:Cx}{e:Expr}{t:TT} (h:PW X e t):PT X e t:=h _
noncomputable def PA (X:Cx) (es:List Expr) (t:TA):Prop :=
 ∀(pos:Pos) (pins:List (Addr×Obj)) (s:Shared) (σ:St) (H:Hp) (Q:List V->Hp->Prop),Inv X pins σ H s->t σ H Q->wpAny (model X.prog X.w) X.A (spliced (backTo pos (starEach es X.env))) (AP X pins σ Q) X.xe s
noncomputable def PS (X:Cx) (st:Stmt) (t:TS):Prop :=
 ∀(pins:List (Addr×Obj)) (s:Shared) (σ:St) (H:Hp) (D:Ends),Inv X pins σ H s->t D σ H->wpAny (model X.prog X.w) X.A (exec st X.env) (SP X pins D) X.xe s
noncomputable def PSs (X:Cx) (st:List Stmt) (t:TS):Prop :=
 ∀(pins:List (Addr×Obj)) (s:Shared) (σ:St) (H:Hp) (D:Ends),Inv X pins σ H s->t D σ H->wpAny (model X.prog X.w) X.A (execs st X.env) (SP X pins D) X.xe s
theorem thn {α:Type}{t:Sem α}{Q Q':α->Shared->Prop}{M:Model}{A:Around}{E:Value->Shared->Prop}{s:Shared} (h:wpAny M A t Q E s) (hQ:∀a s,Q a s->Q' a s):wpAny M A t Q' E s:=YR h hQ λ_ _ x=>x
section
variable {X:Cx}
noncomputable def tVar (i:Nat):TE:=fun σ H Q=>∃v,σ[i]?=some (some v)/\Q v H
noncomputable def tC (v:V):TE:=λ_ H Q=>Q v H
theorem pe_var {i:Nat}{x:Str}{pos:Pos} (hN:X.N[i]?=some x) (hv:Vis X.env.scope x) (hd:(x==("__debug__":Str))=false:=by decide) (hcd:(x==("__classdict__":Str))=false:=by decide):PE X (.Name x pos) (tVar i):=by
 intro pins s σ H Q I h
 obtain⟨v,e,h⟩:=h
 obtain⟨m,hn,hl⟩:=I.loc
 obtain⟨u,r,l⟩:=hl i x v hN e hv
 have fin:EP X pins σ Q u s:=⟨v,H,I,r,h⟩
 rcases l with⟨hk,hm⟩|⟨hk,c,hc,hcell⟩
 ·exact wpAny_Name (wpAny_loadName_local I.ok.kind hk hn hm fin) hd
 ·rcases hk with hk|hk
  ·exact wpAny_Name (wpAny_loadName_cell I.ok.kind hk hc hcell fin) hd
  ·exact wpAny_Name (wpAny_loadName_free I.ok.kind hk hc hcell fin hcd) hd
theorem Ze {i j pos}:PE X (.Constant (.int i) j pos) (tC (.int i)):=λ_ _ _ H _ I h=>wpAny_Constant_int ⟨.int i,H,I.tok _,⟨_,rfl⟩,h⟩
theorem ZbF {b j pos}:PE X (.Constant (.bool b) j pos) (tC (.bl b)):=λ_ _ _ H _ I h=>Constant_bool ⟨.bl b,H,I,rfl,h⟩
theorem ZlO {j pos}:PE X (.Constant .none j pos) (tC .non):=λ_ _ _ H _ I h=>Constant_none ⟨.non,H,I,rfl,h⟩
noncomputable def Gl (X:Cx) (x:Str):Prop:=X.env.kindOf x=some .globalImplicit
theorem Zj7 {E:Value->Shared->Prop}{pins:List (Addr×Obj)}{s:Shared}{σ:St}{H:Hp}{x:Str}{u:Value}{pos:Pos}{Q:Value->Shared->Prop} (I:Inv X pins σ H s) (hg:Gl X x) (hm:X.mg x=some u) (h:Q u s)
  (hd:(x==("__debug__":Str))=false:=by decide):wpAny (model X.prog X.w) X.A (eval (.Name x pos) X.env) Q E s :=
 Calls.Name_function_global I.ok.kind hg (Calls.loadGlobal_global (by rw[I.ok.glob];exact I.mod.glob.keeps I.bk) hm h) hd
theorem Zdu {E:Value->Shared->Prop}{pins:List (Addr×Obj)}{s:Shared}{σ:St}{H:Hp}{x:Str}{u:Value}{pos:Pos}{Q:Value->Shared->Prop} (I:Inv X pins σ H s) (hg:Gl X x) (hm:X.mg x=none) (hv:bootBuiltins x=some u) (h:Q u s)
  (hn:x≠"__name__":=by decide) (hd:(x==("__debug__":Str))=false:=by decide):wpAny (model X.prog X.w) X.A (eval (.Name x pos) X.env) Q E s:=by
 obtain⟨mb,h1,h2⟩:=I.mod.blt
 exact Calls.Name_function_global I.ok.kind hg (Calls.loadGlobal_builtin (by rw[I.ok.glob];exact I.mod.glob.keeps I.bk) hm (by rw[I.ok.blt];exact h1.keeps I.bk) ((h2 x hn).trans hv) h) hd
theorem Zj8 {x:Str}{v:V}{u:Value}{pos:Pos} (hg:Gl X x) (hm:X.mg x=none) (hv:bootBuiltins x=some u) (r:RelV v u) (hn:x≠"__name__":=by decide) (hd:(x==("__debug__":Str))=false:=by decide):PE X (.Name x pos) (tC v) :=
 λ_ _ _ H _ I h=>Zdu I hg hm hv ⟨v,H,I,r,h⟩ hn hd
variable {a b:Expr}{ta tb:TE}{pos:Pos}
noncomputable def tB (t:TE):TT:=fun σ H Q=>t σ H λx H1=>∃c,x=.bl c/\Q c H1
theorem Zeu {e:Expr}{t:TE} (h:PE X e t) (he:∀whole,isTrue e X.env whole=(do let v <-whole;standAt e.pos;holding [v] (truthy v)):=by intro _;rfl):PT X e (tB t):=by
 intro pins s σ H Q I hw
 refine isTrue_plain (thn (h pins s σ H _ I hw) λv s1 ⟨x,H1,I1,r1,q1⟩=>?_) (he _)
 obtain⟨d,rfl,q⟩:=q1
 cases r1
 exact wpAny_truthy_bool ⟨H1,I1,q⟩
variable {tA tB':TT}{rest:List Expr}
noncomputable def tAnd (t u:TT):TT:=fun σ H Q=>t σ H λc H1=>if c=true then u σ H1 Q else Q false H1
noncomputable def tOr (t u:TT):TT:=fun σ H Q=>t σ H λc H1=>if c=true then Q true H1 else u σ H1 Q
noncomputable def tNot (t:TT):TT:=fun σ H Q=>t σ H λc H1=>Q (!c) H1
theorem Zcc (ha:PT X a tA):PW X (.BoolOp .And [a] pos) tA:=by
 intro wh pins s σ H Q I h
 refine isTrue_and (thn (ha pins s σ H Q I h) λc s1 e=>?_)
 cases c with
 |true=>exact isTrue_and_nil e
 |false=>exact e
theorem Zfo (ha:PT X a tA):PW X (.BoolOp .Or [a] pos) tA:=by
 intro wh pins s σ H Q I h
 refine isTrue_or (thn (ha pins s σ H Q I h) λc s1 e=>?_)
 cases c with
 |false=>exact isTrue_or_nil e
 |true=>exact e
theorem Zdv (ha:PT X a tA) (hb:PW X (.BoolOp .And (b::rest) pos) tB'):PW X (.BoolOp .And (a::b::rest) pos) (tAnd tA tB'):=by
 intro wh pins s σ H Q I h
 refine isTrue_and (thn (ha pins s σ H _ I h) λc s1 ⟨H1,I1,q1⟩=>?_)
 cases c with
 |true=>exact hb wh pins s1 σ H1 Q I1 q1
 |false=>exact⟨H1,I1,q1⟩
theorem Zgc (ha:PT X a tA) (hb:PW X (.BoolOp .Or (b::rest) pos) tB'):PW X (.BoolOp .Or (a::b::rest) pos) (tOr tA tB'):=by
 intro wh pins s σ H Q I h
 refine isTrue_or (thn (ha pins s σ H _ I h) λc s1 ⟨H1,I1,q1⟩=>?_)
 cases c with
 |true=>exact⟨H1,I1,q1⟩
 |false=>exact hb wh pins s1 σ H1 Q I1 q1
theorem Zcv (ha:PT X a tA):PT X (.UnaryOp .Not a pos) (tNot tA):=by
 intro pins s σ H Q I h
 exact isTrue_not (ha pins s σ H (λc H1=>Q (!c) H1) I h)
noncomputable def tAndV (ta tb:TE):TE:=fun σ H Q=>ta σ H λx H1=>∃c,x=.bl c/\if c=true then tb σ H1 Q else Q (.bl false) H1
theorem ZlP {op}{t:TE} (h:PE X a t):PE X (.BoolOp op [a] pos) t:=λpins s σ H Q I hw=>BoolOp_one (h pins s σ H Q I hw)
theorem ZlQ (ha:PE X a ta) (hb:PE X (.BoolOp .And (b::rest) pos) tb):PE X (.BoolOp .And (a::b::rest) pos) (tAndV ta tb):=by
 intro pins s σ H Q I h
 refine BoolOp_and (thn (ha pins s σ H _ I h) λv s1 ⟨x,H1,I1,r1,q1⟩=>?_)
 obtain⟨c,rfl,q1⟩:=q1
 cases r1
 refine wpAny_truthy_bool ?_
 cases c with
 |true=>exact hb pins s1 σ H1 Q I1 q1
 |false=>exact⟨.bl false,H1,I1,rfl,q1⟩
noncomputable def tIf (t:TT) (ta tb:TE):TE:=fun σ H Q=>t σ H λc H1=>if c=true then ta σ H1 Q else tb σ H1 Q
theorem ZlR {c:Expr} (hc:PT X c tA) (ha:PE X a ta) (hb:PE X b tb):PE X (.IfExp c a b pos) (tIf tA ta tb):=by
 intro pins s σ H Q I h
 refine wpAny_IfExp (thn (hc pins s σ H _ I h) λd s1 ⟨H1,I1,q1⟩=>?_)
 cases d with
 |true=>exact ha pins s1 σ H1 Q I1 q1
 |false=>exact hb pins s1 σ H1 Q I1 q1
end
noncomputable def SqL (K:PySem.W.Frag) (H:Hp) (a:Addr) (xs:List V):Prop :=
 Rd H a (.lst xs) \/
  ∃(o:Obj) (its:Array Value) (n:Nat),K.lookup a=some o/\o.cls=.type "list"/\o.dict=none/\o.data=.seq its n/\its.size<=sizeLine/\Vals xs its.toList
noncomputable def SqT (K:PySem.W.Frag) (H:Hp) (a:Addr) (xs:List V):Prop :=
 Rd H a (.tup xs) \/
  ∃(o:Obj) (its:Array Value) (n:Nat),K.lookup a=some o/\o.cls=.type "tuple"/\o.data=.seq its n/\its.size<=sizeLine/\Vals xs its.toList
noncomputable def absV:Value->Option V
 |.none=>some .non
 |.bool b=>some (.bl b)
 |.int i _=>some (.int i)
 |.str x _=>some (.str x)
 |.bytes b _=>some (.byt b)
 |.float b _=>some (.flt b)
 |.ref a=>some (.ref a)
 |.type n=>some (.ty n)
 |_=>none
theorem RelV.abs {x:V}{u:Value} (r:RelV x u):absV u=some x:=by
 cases x with
 |non=>cases r;rfl
 |bl _=>cases r;rfl
 |int _=>obtain⟨t,rfl⟩:=r;rfl
 |str _=>obtain⟨t,rfl⟩:=r;rfl
 |byt _=>obtain⟨t,rfl⟩:=r;rfl
 |flt _=>obtain⟨t,rfl⟩:=r;rfl
 |ref _=>cases r;rfl
 |ty _=>cases r;rfl
theorem RelV.inj {x y:V}{u:Value} (r:RelV x u) (q:RelV y u):x=y:=Yx (r.abs.symm.trans q.abs)
theorem Vals.inj:∀{xs ys:List V}{us:List Value},Vals xs us->Vals ys us->xs=ys
 |_,_,_,.nil,.nil=>rfl
 |_,_,_,.cons r t,.cons r' t'=>by rw[r.inj r',Vals.inj t t']
section
variable {X:Cx}{pins:List (Addr×Obj)}{σ:St}{H:Hp}{s:Shared}{a:Addr}{xs ys:List V}
theorem SqL.of {K:PySem.W.Frag} (h:H a=some (.lst xs)):SqL K H a xs:=.inl (.inl h)
theorem SqT.of {K:PySem.W.Frag} (h:H a=some (.tup xs)):SqT K H a xs:=.inl (.inl h)
theorem Inv.list (I:Inv X pins σ H s) (h:SqL X.K H a xs):∃its:List Value,Vals xs its/\PlainL s.heap a its.toArray/\xs.length<=sizeLine:=by
 rcases h with h|⟨o,its,n,hk,hc,hd,hs,hz,r⟩
 ·obtain⟨z,its,n,r,e⟩:=h.ok I.hok
  exact⟨its,r,⟨_,n,e,rfl,rfl,rfl⟩,z⟩
 ·refine⟨its.toList,r,⟨o,n,I.kIn a o hk,hc,hd,by simpa using hs⟩,?_⟩
  have e:=r.length
  simp only[YI]at e
  omega
theorem Inv.tuple (I:Inv X pins σ H s) (h:SqT X.K H a xs):∃its:List Value,Vals xs its/\IsTup s.heap a its.toArray/\xs.length<=sizeLine:=by
 rcases h with h|⟨o,its,n,hk,hc,hs,hz,r⟩
 ·obtain⟨z,its,r,p⟩:=h.ok I.hok
  exact⟨its,r,p,z⟩
 ·refine⟨its.toList,r,⟨o,I.kIn a o hk,hc,n,by simpa using hs⟩,?_⟩
  have e:=r.length
  simp only[YI]at e
  omega
theorem Inv.ZbQ (I:Inv X pins σ H s) (h:SqL X.K H a xs) (h':SqL X.K H a ys):xs=ys:=by
 obtain⟨its,r,⟨o,n,e,_,_,d⟩,_⟩:=I.list h
 obtain⟨its',r',⟨o',n',e',_,_,d'⟩,_⟩:=I.list h'
 rw[e]at e';cases e'
 rw[d]at d'
 injection d' with d1 _
 have:its=its':=by simpa using congrArg Array.toList d1
 subst this
 exact r.inj r'
theorem Inv.Zhf (I:Inv X pins σ H s) (h:SqT X.K H a xs) (h':SqT X.K H a ys):xs=ys:=by
 obtain⟨its,r,⟨o,e,_,n,d⟩,_⟩:=I.tuple h
 obtain⟨its',r',⟨o',e',_,n',d'⟩,_⟩:=I.tuple h'
 rw[e]at e';cases e'
 rw[d]at d'
 injection d' with d1 _
 have:its=its':=by simpa using congrArg Array.toList d1
 subst this
 exact r.inj r'
end
noncomputable abbrev Cx.ZgX (X:Cx) (E:Value->Shared->Prop):Cx:={X with xe:=E}
noncomputable abbrev Cx.nox (X:Cx):Cx:=X.ZgX λ_ _=>False
theorem Cx.Ok.ZgX {X:Cx} (ok:X.Ok) (E:Value->Shared->Prop):(X.ZgX E).Ok :=
 ⟨ok.mod,ok.kind,ok.glob,ok.blt,ok.above,ok.inj,ok.has,ok.cab,ok.hd,ok.frames,ok.stk,ok.exf,ok.bs,ok.bsz,ok.noex,ok.exfs,ok.funs,ok.frf⟩
theorem Cx.Ok.Zdw {X:Cx}{E:Value->Shared->Prop} (ok:(X.ZgX E).Ok):X.Ok :=
 ⟨ok.mod,ok.kind,ok.glob,ok.blt,ok.above,ok.inj,ok.has,ok.cab,ok.hd,ok.frames,ok.stk,ok.exf,ok.bs,ok.bsz,ok.noex,ok.exfs,ok.funs,ok.frf⟩
section
variable {X:Cx}{pins:List (Addr×Obj)}{σ:St}{H:Hp}{s:Shared}{E:Value->Shared->Prop}
theorem Inv.ZgX (I:Inv X pins σ H s) (E:Value->Shared->Prop):Inv (X.ZgX E) pins σ H s:=⟨I.ok.ZgX E,I.os,I.bare,I.base,I.loc,I.cell,I.free,I.freeC,I.pin,I.hok,I.len⟩
theorem Inv.Zdw (I:Inv (X.ZgX E) pins σ H s):Inv X pins σ H s:=⟨I.ok.Zdw,I.os,I.bare,I.base,I.loc,I.cell,I.free,I.freeC,I.pin,I.hok,I.len⟩
theorem SP.Zdw {D:Ends}{f:Flow}{s':Shared} (h:SP (X.ZgX E) pins D f s'):SP X pins D f s':=by
 cases f with
 |next=>obtain⟨σ',H',I,q⟩:=h;exact⟨σ',H',I.Zdw,q⟩
 |brk=>obtain⟨σ',H',I,q⟩:=h;exact⟨σ',H',I.Zdw,q⟩
 |cont=>obtain⟨σ',H',I,q⟩:=h;exact⟨σ',H',I.Zdw,q⟩
 |ret u=>obtain⟨v,σ',H',I,r,q⟩:=h;exact⟨v,σ',H',I.Zdw,r,q⟩
end
section
variable {X:Cx}{st:Stmt}{rest:List Stmt}{t u:TS}{e:Expr}{te:TE}{pos:Pos}
noncomputable def tNext:TS:=λD σ H=>D.nx σ H
noncomputable def tSeq (t u:TS):TS:=λD σ H=>t {D with nx:=u D} σ H
theorem Zu:PSs X [] tNext:=λ_ _ σ H _ I h=>wpAny_execs_nil ⟨σ,H,I,h⟩
theorem Zd (h1:PS X st t) (h2:PSs X rest u):PSs X (st::rest) (tSeq t u):=by
 intro pins s σ H D I h
 refine wpAny_execs_cons (thn (h1 pins s σ H {D with nx:=u D} I h) λf s1 q=>?_)
 cases f with
 |next =>
  obtain⟨σ',H',I',q⟩:=q
  exact h2 pins s1 σ' H' D I' q
 |ret v=>exact q
 |brk=>exact q
 |cont=>exact q
theorem Zg (h1:PS X st t):PSs X [st] t:=by
 intro pins s σ H D I h
 refine wpAny_execs_cons (thn (h1 pins s σ H D I h) λf s1 q=>?_)
 cases f with
 |next=>exact wpAny_execs_nil q
 |ret v=>exact q
 |brk=>exact q
 |cont=>exact q
theorem Inv.quiet {pins:List (Addr×Obj)}{σ:St}{H:Hp}{s:Shared} (I:Inv X pins σ H s):interactive X.env=false:=by simp[interactive,I.ok.kind]
noncomputable def tDrop (te:TE):TS:=λD σ H=>te σ H λ_ H1=>D.nx σ H1
theorem Z6 (he:PE X e te) (hs:swapsWith e none pos.line X.env=pure false:=by rfl):PS X (.Expr e pos) (tDrop te):=by
 intro pins s σ H D I h
 exact wpAny_Expr_any (thn (he pins s σ H _ I h) λv s1 ⟨x,H1,I1,r1,q1⟩=>⟨σ,H1,I1,q1⟩) I.quiet hs
noncomputable def tRet (te:TE):TS:=λD σ H=>te σ H D.rt
theorem Zx (he:PE X e te):PS X (.Return (some e) pos) (tRet te):=by
 intro pins s σ H D I h
 exact wpAny_Return_some (thn (he pins s σ H _ I h) λv s1 ⟨x,H1,I1,r1,q1⟩=>⟨x,σ,H1,I1,r1,q1⟩)
noncomputable def tIfS (c:TT) (t u:TS):TS:=λD σ H=>c σ H λb H1=>if b=true then t D σ H1 else u D σ H1
theorem ZK {c:Expr}{a b:List Stmt}{tc:TT} (hc:PT X c tc) (ha:PSs X a t) (hb:PSs X b u):PS X (.If c a b pos) (tIfS tc t u):=by
 intro pins s σ H D I h
 refine wpAny_If (thn (hc pins s σ H _ I h) λd s1 ⟨H1,I1,q1⟩=>?_)
 cases d with
 |true=>exact ha pins s1 σ H1 D I1 q1
 |false=>exact hb pins s1 σ H1 D I1 q1
end
noncomputable abbrev TG:=V->St->Hp->(St->Hp->Prop)->Prop
noncomputable abbrev TGs:=List V->St->Hp->(St->Hp->Prop)->Prop
noncomputable def PG (X:Cx) (target:Expr) (t:TG):Prop :=
 ∀(pins:List (Addr×Obj)) (s:Shared) (σ:St) (H:Hp) (v:V) (u:Value) (Q:St->Hp->Prop),Inv X pins σ H s->RelV v u->t v σ H Q ->
  wpAny (model X.prog X.w) X.A (assign target X.env u) (λ_ s'=>∃σ' H',Inv X pins σ' H' s'/\Q σ' H') X.xe s
noncomputable def PGs (X:Cx) (ts:List Expr) (t:TGs):Prop :=
 ∀(pins:List (Addr×Obj)) (s:Shared) (σ:St) (H:Hp) (vs:List V) (us:List Value) (Q:St->Hp->Prop),Inv X pins σ H s->Vals vs us->t vs σ H Q ->
  wpAny (model X.prog X.w) X.A (assignInOrder ((assignEach ts X.env).map (·.2)) us) (λ_ s'=>∃σ' H',Inv X pins σ' H' s'/\Q σ' H') X.xe s
noncomputable abbrev TSet:=V->V->V->Hp->(Hp->Prop)->Prop
noncomputable def PSet (X:Cx) (t:TSet):Prop :=
 ∀(pins:List (Addr×Obj)) (s:Shared) (σ:St) (H:Hp) (o i v:V) (ov iv u:Value) (Q:Hp->Prop),Inv X pins σ H s->RelV o ov->RelV i iv->RelV v u->t o i v H Q ->
  wpAny (model X.prog X.w) X.A (setItem ov iv u) (λ_ s'=>∃H',Inv X pins σ H' s'/\Q H') X.xe s
section
variable {X:Cx}{pos:Pos}
noncomputable def Zgd (i:Nat):TG:=λv σ H Q=>Q (σ.set i (some v)) H
theorem Zm {i:Nat}{x:Str} (hN:X.N.Nodup) (hi:X.N[i]?=some x) (hx:Loc X.env.scope x) (hf:X.fn x=true\/X.env.scope.names.lookup x=some .local:=by first|exact .inl rfl|exact .inr rfl|assumption):PG X (.Name x pos) (Zgd i):=by
 intro pins s σ H v u Q I r h
 exact wpAny_assign_Name (Zio I hN hi hx r (λs' I'=>⟨_,H,I',h⟩) hf)
noncomputable def gNil:TGs:=λvs σ H Q=>vs=[]/\Q σ H
noncomputable def ZlS (t:TG) (u:TGs):TGs:=λvs σ H Q=>∃v r,vs=v::r/\t v σ H fun σ' H'=>u r σ' H' Q
theorem Zap:PGs X [] gNil:=by
 intro pins s σ H vs us Q I r h
 obtain⟨e,h⟩:=h
 subst e
 cases r
 exact assignInOrder_nil ⟨σ,H,I,h⟩
theorem Zt {e:Expr}{es:List Expr}{t:TG}{u:TGs} (h1:PG X e t) (h2:PGs X es u)
  (hs:(assignEach (e::es) X.env).map (·.2)=assign e X.env::(assignEach es X.env).map (·.2):=by rfl):PGs X (e::es) (ZlS t u):=by
 intro pins s σ H vs us Q I r h
 obtain⟨v,vr,e1,h⟩:=h
 subst e1
 cases r with
 |cons r rr =>
  rw[hs]
  refine assignInOrder_cons (thn (h1 pins s σ H _ _ _ I r h) λ_ s1 ⟨σ1,H1,I1,q1⟩=>?_)
  exact h2 pins s1 σ1 H1 _ _ Q I1 rr q1
noncomputable def gTup (K:PySem.W.Frag) (n:Nat) (t:TGs):TG:=λv σ H Q=>∃a xs,v=.ref a/\SqT K H a xs/\xs.length=n/\t xs σ H Q
theorem ZcU {es:List Expr}{k:Nat}{t:TGs}{n:Nat} (hc:X.calm=true) (h:PGs X es t)
  (hn:(assignEach es X.env).length=n:=by rfl) (hst:(assignEach es X.env).findIdx? (·.1)=none:=by rfl):PG X (.Tuple es k pos) (gTup X.K n t):=by
 intro pins s σ H v u Q I r hw
 obtain⟨a,xs,e1,hq,hl,hw⟩:=hw
 subst e1
 cases r
 obtain⟨its,rv,ht,hz⟩:=I.tuple hq
 refine assign_Tuple_tuple (I.ok.hd hc) ht (by simp[hn,<-hl,rv.length]) hst λh' hx=>?_
 have I1:Inv X pins σ H {s with heap:=h'}:=I.kept (t':=s.toks) λb o e=>hx b o (Yv (Yi e)) e
 exact h pins _ σ H xs _ Q I1 (by simpa using rv) hw
noncomputable def gSub (to ti:TE) (t:TSet):TG:=λv σ H Q=>to σ H λo H1=>ti σ H1 λi H2=>t o i v H2 λH3=>Q σ H3
theorem Zjp {o i:Expr}{to ti:TE}{t:TSet} (ho:PE X o to) (hi:PE X i ti) (hs:PSet X t)
  (ha:∀v,assign (.Subscript o i pos) X.env v=(do
   let ov <-holding [v] (eval o X.env)
   let iv <-holding [v,ov] (eval i X.env)
   standAt pos
   holding [v,ov,iv] (setItem ov iv v)
   release [v,ov,iv] []):=by intro _;rfl):PG X (.Subscript o i pos) (gSub to ti t):=by
 intro pins s σ H v u Q I r h
 rw[ha]
 refine Yf (wpAny_holding (thn (ho pins s σ H _ I h) λov s1 ⟨x,H1,I1,r1,q1⟩=>?_))
 refine Yf (wpAny_holding (thn (hi pins s1 σ H1 _ I1 q1) λiv s2 ⟨y,H2,I2,r2,q2⟩=>?_))
 refine Yf (wpAny_standAt (Yf (wpAny_holding (thn (hs pins s2 σ H2 x y v ov iv u _ I2 r1 r2 r q2) λ_ s3 ⟨H3,I3,q3⟩=>?_))))
 exact wpAny_release ⟨σ,H3,I3,q3⟩
noncomputable def tAsg (te:TE) (g:TG):TS:=λD σ H=>te σ H λx H1=>g x σ H1 D.nx
theorem Zev {tg e:Expr}{te:TE}{g:TG} (he:PE X e te) (hg:PG X tg g) (hs:swapsWithSole [tg] e pos.line X.env=pure false:=by rfl) (hw:swappedStores [tg] e X.env=pure none:=by rfl)
  (h1:(assignEach [tg] X.env).map (·.2)=[assign tg X.env]:=by rfl):PS X (.Assign [tg] e pos) (tAsg te g):=by
 intro pins s σ H D I h
 refine wpAny_Assign_stores (thn (he pins s σ H _ I h) λv s1 ⟨x,H1,I1,r1,q1⟩=>?_) hs hw
 rw[h1]
 exact thn (hg pins s1 σ H1 x v _ I1 r1 q1) λ_ s2 q=>q
theorem Zp {i:Nat}{x:Str}{e:Expr}{te:TE}{pos':Pos} (hN:X.N.Nodup) (hi:X.N[i]?=some x) (hx:Loc X.env.scope x) (he:PE X e te) (hs:swapsWith e (some (.Name x pos')) pos.line X.env=pure false:=by rfl) (hf:X.fn x=true\/X.env.scope.names.lookup x=some .local:=by first|exact .inl rfl|exact .inr rfl|assumption) :
  PS X (.Assign [.Name x pos'] e pos) (tAsg te (Zgd i)):=by
 intro pins s σ H D I h
 refine wpAny_Assign_Name (thn (he pins s σ H _ I h) λv s1 ⟨y,H1,I1,r1,q1⟩=>?_) hs
 exact Zio I1 hN hi hx r1 (λs2 I2=>⟨_,H1,I2,q1⟩) hf
end
section
variable {X:Cx}{pos:Pos}
noncomputable def Zjq (c:TT) (tb:TS):TS:=λD σ H=>∃W:Nat->St->Hp->Prop,(∃m,W m σ H)/\∀m σ H,W m σ H ->
 c σ H λb H1=>if b=true then ∃N:St->Hp->Prop,(∀σ' H',N σ' H'->∃m',m'<m/\W m' σ' H')/\tb {D with nx:=N,ct:=N,bk:=D.nx} σ H1 else D.nx σ H1
theorem ZlT {c:Expr}{body:List Stmt}{tc:TT}{tb:TS} (hp:PassesOwn (model X.prog X.w) X.A X.env X.xe) (hc:PT X c tc) (hb:PSs X body tb):PS X (.While c body [] pos) (Zjq tc tb):=by
 intro pins s σ H D I h
 obtain⟨W,⟨m0,w0⟩,turn⟩:=h
 refine wpAny_While (codeAny_whileLoop (λn s'=>∃σ' H',Inv X pins σ' H' s'/\W n σ' H') ?_ m0 ⟨σ,H,I,w0⟩)
 rintro n s1 ⟨σ1,H1,I1,w1⟩
 refine wpAny_passesOwn hp (thn (hc pins s1 σ1 H1 _ I1 (turn n σ1 H1 w1)) λb s2 ⟨H2,I2,q2⟩=>?_)
 cases b with
 |true =>
  obtain⟨N,hN,q2⟩:=q2
  rw[Yd rfl]
  refine wpAny_passesOwn hp (thn (hb pins s2 σ1 H2 _ I2 q2) λf s3 q3=>?_)
  cases f with
  |next =>
   obtain⟨σ3,H3,I3,n3⟩:=q3
   obtain⟨m',hm,w3⟩:=hN σ3 H3 n3
   exact⟨m',hm,σ3,H3,I3,w3⟩
  |cont =>
   obtain⟨σ3,H3,I3,n3⟩:=q3
   obtain⟨m',hm,w3⟩:=hN σ3 H3 n3
   exact⟨m',hm,σ3,H3,I3,w3⟩
  |brk=>exact q3
  |ret v=>exact q3
 |false =>
  rw[Ye Yz]
  exact wpAny_execs_nil ⟨σ1,H2,I2,q2⟩
end
structure It where
 go:Nat->Hp->Prop
 yld:Nat->Hp->V->Hp->Prop
 stop:Nat->Hp->Prop
noncomputable def FpOk (X:Cx) (pins:List (Addr×Obj)) (H:Hp) (b:Addr):Prop :=
 H b=none/\b≠X.env.locals/\b∉X.fs/\(b∈X.ex\/X.s₀.heap.objs.size<=b)/\(∀x c,X.env.cells.lookup x=some c->c≠b)/\∀p∈X.pn++pins,p.1≠b
theorem Inv.Zjr {X:Cx}{pins:List (Addr×Obj)}{σ:St}{H H':Hp}{s:Shared}{b:Addr} (I:Inv X pins σ H s) (hb:s.heap.objs.size<=b) (hn:H' b=none):FpOk X pins H' b:=by
 refine⟨hn,Nat.ne_of_gt (Yw I.lt hb),I.nofs hb,.inr (Yh I.sz hb),λx c e z=>?_,λp hp z=>?_⟩
 ·obtain⟨v,q⟩:=I.cell x c e
  exact absurd (Yw q.lt (by rw[z];exact hb)) (YE _)
 ·exact absurd (Yw (Yi (I.pin p hp).1) (by rw[z];exact hb)) (YE _)
structure Turn (P:Program) (w:World) (K:PySem.W.Frag) (tg:Expr) (J:It) (fp:List Addr) (it:Addr) (tn:Nat->Heap->Prop):Prop where
 mem:it∈fp
 obj:∀i h,tn i h->∀b∈fp,∃o,h.get? b=some o/\∀v,o.data≠.cell v
 keep:∀i h h',tn i h->(∀b∈fp,∀o,h.get? b=some o->h'.get? b=some o)->tn i h'
 item:∀(X:Cx),X.prog=P->X.w=w->X.K=K->X.calm=true->∀(i:Nat) (pins:List (Addr×Obj)) (s:Shared) (σ:St) (H:Hp) (E:Value->Shared->Prop),Inv X pins σ H s->(∀b∈fp,FpOk X pins H b)->tn i s.heap->J.go i H ->
  wpAny (model P w) X.A (pyNext (.ref it)) (λr s1=>∃u,r=some u /\
   wpAny (model P w) X.A (letOwnedTupleGo tg (.ref it) u) (λ_ s2=>∃x H',Inv X pins σ H' s2/\RelV x u/\J.yld i H x H'/\tn (i+1) s2.heap/\∀b∈fp,H' b=none) E s1) E s
 done:∀(X:Cx),X.prog=P->X.w=w->X.K=K->X.calm=true->∀(i:Nat) (pins:List (Addr×Obj)) (s:Shared) (σ:St) (H:Hp) (E:Value->Shared->Prop),Inv X pins σ H s->(∀b∈fp,FpOk X pins H b)->tn i s.heap->J.stop i H ->
  wpAny (model P w) X.A (pyNext (.ref it)) (λr s1=>r=none/\Inv X pins σ H s1) E s
 self:∀(A:Around) (i:Nat) (s:Shared) (Q:Value->Shared->Prop) (E:Value->Shared->Prop),tn i s.heap->Q (.ref it) s->wpAny (model P w) A (pyIter (.ref it)) Q E s
noncomputable abbrev TI:=St->Hp->(It->Hp->Prop)->Prop
noncomputable def PIE (X:Cx) (pins:List (Addr×Obj)) (σ:St) (tg:Expr) (R:It->Hp->Prop) (itv:Value) (s2:Shared):Prop :=
 ∃(it:Addr) (fp:List Addr) (tn:Nat->Heap->Prop) (J:It) (H':Hp),itv=.ref it/\Inv X pins σ H' s2/\Turn X.prog X.w X.K tg J fp it tn/\tn 0 s2.heap/\(∀b∈fp,FpOk X pins H' b)/\R J H'
noncomputable def PI (X:Cx) (tg iter:Expr) (wi:TI):Prop :=
 ∀(pins:List (Addr×Obj)) (s:Shared) (σ:St) (H:Hp) (R:It->Hp->Prop),Inv X pins σ H s->wi σ H R ->
  wpAny (model X.prog X.w) X.A (eval iter X.env) (λv s1=>wpAny (model X.prog X.w) X.A (pyIter v) (PIE X pins σ tg R) X.xe s1) X.xe s
theorem ZlU {M : Model} {A : Around} {E : Value → Shared → Prop} {s : Shared} {tg : Expr} {it : Addr} {u : Value} {o : Obj} {n : String} {vs : Array Value} {Q : Unit → Shared → Prop} (ho : s.heap.get? it = some o) (hc : o.cls = .type n) (hd : o.data = .fields vs)
    (hn : ["enumerate", "zip", "dict_itemiterator", "dict_reverseitemiterator", "odict_iterator", "itertools.zip_longest", "itertools.pairwise"].contains n = false) (hQ : Q () s) : wpAny M A (letOwnedTupleGo tg (.ref it) u) Q E s := by
  unfold letOwnedTupleGo
  cases tg <;> first
    | exact Yq hQ
    | (cases u <;> first
        | exact Yq hQ
        | (refine Yf (wpAny_load ho ?_)
           rw [hc, hd]
           show wpAny M A (if (["enumerate", "zip", "dict_itemiterator", "dict_reverseitemiterator", "odict_iterator", "itertools.zip_longest", "itertools.pairwise"].contains n && vs[0]? == some (rawInt _)) = true then _ else _) Q E s
           rw [Ye (by intro h; rw [hn, Bool.false_and] at h; cases h)]
           exact Yq hQ))
noncomputable def Itl (K:PySem.W.Frag) (a:Addr):It :=
 ⟨λi H=>∃xs x,SqL K H a xs/\xs[i]?=some x,λi H x H'=>H'=H/\∀xs,SqL K H a xs->xs[i]?=some x,λi H=>∃xs,SqL K H a xs/\xs.length<=i⟩
noncomputable def Itt (K:PySem.W.Frag) (a:Addr):It :=
 ⟨λi H=>∃xs x,SqT K H a xs/\xs[i]?=some x,λi H x H'=>H'=H/\∀xs,SqT K H a xs->xs[i]?=some x,λi H=>∃xs,SqT K H a xs/\xs.length<=i⟩
noncomputable def Itr (lo:Int) (n:Nat):It:=⟨λi _=>i<n,λi H x H'=>H'=H/\x=.int (lo+i),λi _=>n<=i⟩
theorem Zhg {P:Program}{w:World}{K:PySem.W.Frag}{tg:Expr} (a it:Addr):Turn P w K tg (Itl K a) [it] it (λi h=>h.IsListIter it a i) where
 mem:=by simp
 obj:=λi h st b hb=>by
  have e:b=it:=by simpa using hb
  subst e
  obtain⟨o,e,c,d⟩:=st
  exact⟨o,e,λv z=>by rw[d]at z;cases z⟩
 keep:=λi h h' st k=>st.at λo e=>k it (by simp) o e
 item:=by
  intro X hP hw hK hc i pins s σ H E I hf st hg
  subst hP hw hK
  obtain⟨xs,x,hq,hx⟩:=hg
  obtain⟨its,rv,p,hz⟩:=I.list hq
  obtain⟨u,hu,ru⟩:=rv.get hx
  obtain⟨f0,f1,f2,f3,f4,f5⟩:=hf it (by simp)
  refine wpAny_pyNext_list_item st p.isList (x:=u) (by simpa using hu) λh' st' sb=>?_
  have I1:Inv X pins σ H {s with heap:=h'}:=I.turned (t':=s.toks) (λb o hb e=>(sb.2 b hb).trans e) f0 f1 f3 f4 f5
  obtain⟨o,e,c,d⟩:=id st'
  exact⟨u,rfl,ZlU (s:={s with heap:=h'}) e c d (by decide) ⟨x,H,I1,ru,⟨rfl,λys hy=>by rw[I.ZbQ hy hq];exact hx⟩,st',λb hb=>(hf b hb).1⟩⟩
 done:=by
  intro X hP hw hK hc i pins s σ H E I hf st hg
  subst hP hw hK
  obtain⟨xs,hq,hx⟩:=hg
  obtain⟨its,rv,p,hz⟩:=I.list hq
  obtain⟨f0,f1,f2,f3,f4,f5⟩:=hf it (by simp)
  have hl:=rv.length
  exact wpAny_pyNext_list_end (I.ok.hd hc) st p.isList (by simp;omega) λh' eb=>⟨rfl,I.turned (t':=s.toks) (λb o hb e=>eb b o hb e) f0 f1 f3 f4 f5⟩
 self:=λ_ _ _ _ _ st h=>wpAny_pyIter_listiter st h
theorem Zge {P:Program}{w:World}{K:PySem.W.Frag}{tg:Expr} (a it:Addr):Turn P w K tg (Itt K a) [it] it (λi h=>h.IsTupleIter it a i) where
 mem:=by simp
 obj:=λi h st b hb=>by
  have e:b=it:=by simpa using hb
  subst e
  obtain⟨o,e,c,d⟩:=st
  exact⟨o,e,λv z=>by rw[d]at z;cases z⟩
 keep:=λi h h' st k=>st.at λo e=>k it (by simp) o e
 item:=by
  intro X hP hw hK hc i pins s σ H E I hf st hg
  subst hP hw hK
  obtain⟨xs,x,hq,hx⟩:=hg
  obtain⟨its,rv,p,hz⟩:=I.tuple hq
  obtain⟨u,hu,ru⟩:=rv.get hx
  obtain⟨f0,f1,f2,f3,f4,f5⟩:=hf it (by simp)
  refine wpAny_pyNext_tuple_item st (show s.heap.IsTuple a its.toArray from p) (x:=u) (by simpa using hu) λh' st' sb=>?_
  have I1:Inv X pins σ H {s with heap:=h'}:=I.turned (t':=s.toks) (λb o hb e=>(sb.2 b hb).trans e) f0 f1 f3 f4 f5
  obtain⟨o,e,c,d⟩:=id st'
  exact⟨u,rfl,ZlU (s:={s with heap:=h'}) e c d (by decide) ⟨x,H,I1,ru,⟨rfl,λys hy=>by rw[I.Zhf hy hq];exact hx⟩,st',λb hb=>(hf b hb).1⟩⟩
 done:=by
  intro X hP hw hK hc i pins s σ H E I hf st hg
  subst hP hw hK
  obtain⟨xs,hq,hx⟩:=hg
  obtain⟨its,rv,p,hz⟩:=I.tuple hq
  obtain⟨f0,f1,f2,f3,f4,f5⟩:=hf it (by simp)
  have hl:=rv.length
  exact wpAny_pyNext_tuple_end (I.ok.hd hc) st (show s.heap.IsTuple a its.toArray from p) (by simp;omega) λh' eb=>⟨rfl,I.turned (t':=s.toks) (λb o hb e=>eb b o hb e) f0 f1 f3 f4 f5⟩
 self:=λ_ _ _ _ _ st h=>wpAny_pyIter_tupleiter st h
theorem Zjs {P:Program}{w:World}{K:PySem.W.Frag}{tg:Expr} (it:Addr) (lo:Int) (n:Nat):Turn P w K tg (Itr lo n) [it] it (λi h=>IsRangeIter h it (lo+(i:Nat)*1) ((n:Int)-(i:Nat)) 1) where
 mem:=by simp
 obj:=λi h st b hb=>by
  have e:b=it:=by simpa using hb
  subst e
  exact⟨_,st,λv z=>by
   have z':Data.fields _=Data.cell v:=z
   cases z'⟩
 keep:=λi h h' st k=>k it (by simp) _ st
 item:=by
  intro X hP hw hK hc i pins s σ H E I hf st hg
  subst hP hw hK
  obtain⟨f0,f1,f2,f3,f4,f5⟩:=hf it (by simp)
  have W:=Walks.range (prog:=X.prog) (w:=X.w) (I.ok.hd hc) it lo 1 n
  refine W.item i s _ _ hg st λv h' tk hv st' kk=>?_
  obtain⟨t,rfl⟩:=hv
  have I1:Inv X pins σ H {s with heap:=h',toks:=tk}:=I.turned (λb o hb e=>kk b o (by simpa using hb) e) f0 f1 f3 f4 f5
  refine⟨_,rfl,ZlU (s:={s with heap:=h',toks:=tk}) (n:="range_iterator") st' rfl rfl (by decide) ⟨.int (lo+i),H,I1,⟨t,?_⟩,⟨rfl,rfl⟩,st',λb hb=>(hf b hb).1⟩⟩
  rw[Int.mul_one]
 done:=by
  intro X hP hw hK hc i pins s σ H E I hf st hg
  subst hP hw hK
  obtain⟨f0,f1,f2,f3,f4,f5⟩:=hf it (by simp)
  exact wpAny_pyNext_range_end (I.ok.hd hc) st (by have:n<=i:=hg;omega) λh' eb=>⟨rfl,I.turned (t':=s.toks) (λb o hb e=>eb b o hb e) f0 f1 f3 f4 f5⟩
 self:=λ_ _ _ _ _ st h=>wpAny_pyIter_rangeiter st h
section
variable {X:Cx}{tg:Expr}
noncomputable def ZlV (K:PySem.W.Frag) (tl:TE):TI:=fun σ H R=>tl σ H λx H1=>∃a,x=.ref a/\(∃xs,SqL K H1 a xs)/\R (Itl K a) H1
noncomputable def iTup (K:PySem.W.Frag) (tl:TE):TI:=fun σ H R=>tl σ H λx H1=>∃a,x=.ref a/\(∃xs,SqT K H1 a xs)/\R (Itt K a) H1
theorem Zbt {l:Expr}{tl:TE} (hl:PE X l tl):PI X tg l (ZlV X.K tl):=by
 intro pins s σ H R I h
 refine thn (hl pins s σ H _ I h) λv s1 ⟨x,H1,I1,r1,q1⟩=>?_
 obtain⟨a,e,⟨xs,hq⟩,q⟩:=q1
 subst e
 cases r1
 obtain⟨its,rv,p,hz⟩:=I1.list hq
 refine wpAny_pyIter_list p.isList ?_
 refine⟨s1.heap.objs.size,[s1.heap.objs.size],_,_,H1,rfl,I1.kept (t':=s1.toks) λb o e=>Ys _ e,Zhg a _,⟨_,YD _ rfl,rfl,rfl⟩,λb hb=>?_,q⟩
 have e:b=s1.heap.objs.size:=by simpa using hb
 subst e
 exact I1.Zjr (Ya _) (I1.hok.fresh (Ya _))
theorem pi_tup {l:Expr}{tl:TE} (hl:PE X l tl):PI X tg l (iTup X.K tl):=by
 intro pins s σ H R I h
 refine thn (hl pins s σ H _ I h) λv s1 ⟨x,H1,I1,r1,q1⟩=>?_
 obtain⟨a,e,⟨xs,hq⟩,q⟩:=q1
 subst e
 cases r1
 obtain⟨its,rv,p,hz⟩:=I1.tuple hq
 refine wpAny_pyIter_tuple (show s1.heap.IsTuple a its.toArray from p) ?_
 refine⟨s1.heap.objs.size,[s1.heap.objs.size],_,_,H1,rfl,I1.kept (t':=s1.toks) λb o e=>Ys _ e,Zge a _,⟨_,YD _ rfl,rfl,rfl⟩,λb hb=>?_,q⟩
 have e:b=s1.heap.objs.size:=by simpa using hb
 subst e
 exact I1.Zjr (Ya _) (I1.hok.fresh (Ya _))
theorem Ziq {pins:List (Addr×Obj)}{σ:St}{H:Hp}{s:Shared}{R:It->Hp->Prop}{E:Value->Shared->Prop}{lo hi:Int}{t u v:Tok}{tk:Nat} (I:Inv X pins σ H s) (h1:-(2 ^ 62)<=lo) (h2:lo<2 ^ 62) (h3:-(2 ^ 62)<=hi) (h4:hi<2 ^ 62)
  (q:R (Itr lo (hi-lo).toNat) H):wpAny (model X.prog X.w) X.A (pyIter (.ref s.heap.objs.size)) (PIE X pins σ tg R) E {s with heap:=s.heap.push {cls:=.type "range",data:=.fields #[.int lo t,.int hi u,.int 1 v]},toks:=tk}:=by
 refine wpAny_pyIter_range (IsRange.new ..) (small_one h1 h2 h3 h4) ?_
 have I1:Inv X pins σ H {s with heap:=s.heap.push {cls:=.type "range",data:=.fields #[.int lo t,.int hi u,.int 1 v]},toks:=tk}:=I.kept λb o e=>Ys _ e
 refine⟨(s.heap.push {cls:=.type "range",data:=.fields #[.int lo t,.int hi u,.int 1 v]}).objs.size,[(s.heap.push {cls:=.type "range",data:=.fields #[.int lo t,.int hi u,.int 1 v]}).objs.size],_,_,H,rfl,
  I1.kept (t':=tk) λb o e=>Ys _ e,Zjs _ lo (hi-lo).toNat,?_,λb hb=>?_,q⟩
 ·have e1:lo+((0:Nat):Int)*1=lo:=by simp
  have e2:(((hi-lo).toNat:Nat):Int)-((0:Nat):Int)=Builtin.Range.rangeSize lo hi 1:=by rw[rangeSize_one];split<;>omega
  show IsRangeIter _ _ (lo+((0:Nat):Int)*1) ((((hi-lo).toNat:Nat):Int)-((0:Nat):Int)) 1
  rw[e1,e2]
  exact YD _ rfl
 ·have e:b=(s.heap.push {cls:=.type "range",data:=.fields #[.int lo t,.int hi u,.int 1 v]}).objs.size:=by simpa using hb
  subst e
  exact I1.Zjr (Ya _) (I1.hok.fresh (Ya _))
noncomputable def iRng1 (ta:TA):TI:=fun σ H R=>ta σ H λvs H1=>∃j:Int,vs=[.int j]/\-(2 ^ 62)<=j/\j<2 ^ 62/\R (Itr 0 j.toNat) H1
noncomputable def iRng2 (ta:TA):TI:=fun σ H R=>ta σ H λvs H1=>∃i j:Int,vs=[.int i,.int j]/\(-(2 ^ 62)<=i/\i<2 ^ 62/\-(2 ^ 62)<=j/\j<2 ^ 62)/\R (Itr i (j-i).toNat) H1
theorem Z4 {a:Expr}{ta:TA}{p pos:Pos} (hg:Gl X "range") (hm:X.mg "range"=none) (ha:PA X [a] ta) (hs:starEach [a] X.env=[(false,eval a X.env)]:=by rfl):PI X tg (.Call (.Name "range" p) [a] [] pos) (iRng1 ta):=by
 intro pins s σ H R I h
 refine Call_ (Zdu I hg hm boot_range (PyProof.Rows.callWith_type1 (thn (ha pos pins s σ H _ I h) λus s1 ⟨vs,H1,I1,r1,q1⟩=>?_) hs rfl))
 obtain⟨j,e,q1,q2,q⟩:=q1
 subst e
 cases r1 with
 |cons r rr =>
  cases rr
  obtain⟨t,rfl⟩:=r
  exact call_range_1 (Ziq I1 (by omega) (by omega) q1 q2 (by simpa using q))
theorem Zee {a b:Expr}{ta:TA}{p pos:Pos} (hg:Gl X "range") (hm:X.mg "range"=none) (ha:PA X [a,b] ta) (hs:starEach [a,b] X.env=[(false,eval a X.env),(false,eval b X.env)]:=by rfl) (hs2:starEach [b] X.env=[(false,eval b X.env)]:=by rfl) :
  PI X tg (.Call (.Name "range" p) [a,b] [] pos) (iRng2 ta):=by
 intro pins s σ H R I h
 refine Call_ (Zdu I hg hm boot_range (PyProof.Rows.callWith_type1 (thn (ha pos pins s σ H _ I h) λus s1 ⟨vs,H1,I1,r1,q1⟩=>?_) (by rw[hs,hs2]) (by rw[hs2];rfl)))
 obtain⟨i,j,e,⟨q1,q2,q3,q4⟩,q⟩:=q1
 subst e
 cases r1 with
 |cons r rr =>
  cases rr with
  |cons r' rr =>
   cases rr
   obtain⟨t,rfl⟩:=r
   obtain⟨t',rfl⟩:=r'
   exact call_range_2 (Ziq I1 q1 q2 q3 q4 q)
noncomputable def tFor (wi:TI) (g:TG) (tb:TS):TS:=λD σ H=>wi σ H λJ H1=>∃W:Nat->Nat->St->Hp->Prop,(∃m,W 0 m σ H1)/\∀i m σ H,W i m σ H ->
 (J.stop i H/\D.nx σ H)\/(J.go i H/\∃N:St->Hp->Prop,(∀σ' H',N σ' H'->∃m',m'<m/\W (i+1) m' σ' H')/\∀x H',J.yld i H x H'->g x σ H' fun σ2 H2=>tb {D with nx:=N,ct:=N,bk:=D.nx} σ2 H2)
noncomputable def Zdx (fp:List Addr) (h:Heap):List (Addr×Obj):=fp.filterMap λb=>(h.get? b).map λo=>(b,o)
theorem ZcV {fp:List Addr}{h:Heap}{b:Addr}{o:Obj} (hb:b∈fp) (e:h.get? b=some o):(b,o)∈Zdx fp h:=List.mem_filterMap.mpr ⟨b,hb,by rw[e];rfl⟩
theorem Zhh {fp:List Addr}{h:Heap}{p:Addr×Obj} (hp:p∈Zdx fp h):p.1∈fp/\h.get? p.1=some p.2:=by
 obtain⟨b,hb,e⟩:=List.mem_filterMap.mp hp
 cases q:h.get? b with
 |none=>rw[q]at e;cases e
 |some o =>
  rw[q]at e
  have e':(b,o)=p:=Yx e
  subst e'
  exact⟨hb,q⟩
theorem Inv.pinned {pins:List (Addr×Obj)}{σ:St}{H:Hp}{s:Shared}{fp:List Addr} (I:Inv X pins σ H s) (hf:∀b∈fp,FpOk X pins H b) (ho:∀b∈fp,∃o,s.heap.get? b=some o/\∀v,o.data≠.cell v):Inv X (pins++Zdx fp s.heap) σ H s :=
 I.Ze0 λp hp=>(Yl.mp hp).elim (λz=>I.pin p (Yy _ z)) λz=>by
  obtain⟨hb,e⟩:=Zhh z
  obtain⟨f0,f1,f2,_⟩:=hf p.1 hb
  obtain⟨o,e',d⟩:=ho p.1 hb
  rw[e]at e';cases e'
  exact⟨e,f0,f1,f2,d⟩
theorem Inv.Zdy {pins pl:List (Addr×Obj)}{σ:St}{H:Hp}{s:Shared} (I:Inv X (pins++pl) σ H s):Inv X pins σ H s:=I.Ze0 λp hp=>I.pin p (Yy _ (YF _ hp))
theorem ZaG {iter:Expr}{body:List Stmt}{wi:TI}{g:TG}{tb:TS}{pos:Pos} (hp:PassesOwn (model X.prog X.w) X.A X.env X.xe) (hc:X.calm=true) (hi:PI X tg iter wi) (hg:PG X tg g) (hb:PSs X body tb)
  (hs:∀x,foldedSetIterable iter X.env x=pure x:=by intro _;rfl):PS X (.For tg iter body [] pos) (tFor wi g tb):=by
 intro pins s σ H D I h
 refine wpAny_For (thn (hi pins s σ H _ I h) λv s1 h1=>thn h1 λitv s2 h2=>?_) hs
 obtain⟨it,fp,tn,J,H2,e,I2,T,st2,f2,W,⟨m0,w0⟩,turn⟩:=h2
 subst e
 -- what stays true of the iterator's objects through the loop
 have stat:∀{H':Hp},(∀b∈fp,H' b=none)->∀b∈fp,FpOk X pins H' b:=λhn b hb=>⟨hn b hb,(f2 b hb).2⟩
 refine codeAny_forLoop_any (λn s'=>∃i σ' H',Inv X pins σ' H' s'/\tn i s'.heap/\(∀b∈fp,H' b=none)/\W i n σ' H') ?_ m0 ⟨0,σ,H2,I2,st2,λb hb=>(f2 b hb).1,w0⟩
 rintro n s3 ⟨i,σ3,H3,I3,st3,fr3,w3⟩
 rcases turn i n σ3 H3 w3 with⟨stop,qn⟩|⟨go,N,hN,step⟩
 ·refine wpAny_passesOwn hp (thn (T.done X rfl rfl rfl hc i pins s3 σ3 H3 X.xe I3 (stat fr3) st3 stop) λr s4 ⟨hr,I4⟩=>?_)
  subst hr
  exact wpAny_execs_nil ⟨σ3,H3,I4,qn⟩
 ·refine wpAny_passesOwn hp (thn (T.item X rfl rfl rfl hc i pins s3 σ3 H3 X.xe I3 (stat fr3) st3 go) λr s4 ⟨u,hr,h4⟩=>?_)
  subst hr
  refine wpAny_passesOwn hp (thn h4 λ_ s5 ⟨x,H5,I5,r5,y5,st5,fr5⟩=>?_)
  have I5':=I5.pinned (stat fr5) (T.obj _ _ st5)
  refine wpAny_passesOwn hp (thn (hg _ s5 σ3 H5 x u _ I5' r5 (step x H5 y5)) λ_ s6 ⟨σ6,H6,I6,q6⟩=>?_)
  refine wpAny_passesOwn hp (thn (hb _ s6 σ6 H6 _ I6 q6) λf s7 q7=>?_)
  have again:∀{σ7:St}{H7:Hp},Inv X (pins++Zdx fp s5.heap) σ7 H7 s7->N σ7 H7->∃m,m<n/\∃i σ' H',Inv X pins σ' H' s7/\tn i s7.heap/\(∀b∈fp,H' b=none)/\W i m σ' H':=λ{σ7 H7} I7 n7=>by
   obtain⟨m',hm,w7⟩:=hN σ7 H7 n7
   refine⟨m',hm,i+1,σ7,H7,I7.Zdy,T.keep _ _ _ st5 λb hb o e=>(I7.pin (b,o) (Yy _ (Yy _ (ZcV hb e)))).1,λb hb=>?_,w7⟩
   obtain⟨o,e,d⟩:=T.obj _ _ st5 b hb
   exact(I7.pin (b,o) (Yy _ (Yy _ (ZcV hb e)))).2.1
  cases f with
  |next=>obtain⟨σ7,H7,I7,n7⟩:=q7;exact again I7 n7
  |cont=>obtain⟨σ7,H7,I7,n7⟩:=q7;exact again I7 n7
  |brk=>obtain⟨σ7,H7,I7,q7⟩:=q7;exact⟨σ7,H7,I7.Zdy,q7⟩
  |ret v=>obtain⟨x7,σ7,H7,I7,r7,q7⟩:=q7;exact⟨x7,σ7,H7,I7.Zdy,r7,q7⟩
end
theorem Zgf {K:PySem.W.Frag}{a:Addr}{xs:List V}{g:TG}{tb:TS}{D:Ends}{σ:St}{H:Hp} (Pv:Nat->St->Hp->Prop) (h0:Pv 0 σ H) (hl:∀i σ H,i<=xs.length->Pv i σ H->SqL K H a xs)
  (hs:∀i x σ H,xs[i]?=some x->Pv i σ H->g x σ H fun σ2 H2=>tb {D with nx:=Pv (i+1),ct:=Pv (i+1),bk:=D.nx} σ2 H2) (hd:∀σ H,Pv xs.length σ H->D.nx σ H) :
  ∃W:Nat->Nat->St->Hp->Prop,(∃m,W 0 m σ H)/\∀i m σ H,W i m σ H ->
   ((Itl K a).stop i H/\D.nx σ H)\/((Itl K a).go i H/\∃N:St->Hp->Prop,(∀σ' H',N σ' H'->∃m',m'<m/\W (i+1) m' σ' H')/\∀x H',(Itl K a).yld i H x H'->g x σ H' fun σ2 H2=>tb {D with nx:=N,ct:=N,bk:=D.nx} σ2 H2):=by
 refine⟨λi m σ H=>m=xs.length-i/\i<=xs.length/\Pv i σ H,⟨xs.length,by simp,Yr _,h0⟩,?_⟩
 rintro i m σ H ⟨rfl,hi,p⟩
 have q:=hl i σ H hi p
 by_cases hlt:i<xs.length
 ·refine .inr ⟨⟨xs,xs[i],q,by simp[hlt]⟩,Pv (i+1),fun σ' H' p'=>⟨xs.length-(i+1),by omega,rfl,hlt,p'⟩,λx H' y=>?_⟩
  obtain⟨e,y⟩:=y
  subst e
  exact hs i x σ _ (y xs q) p
 ·have e:i=xs.length:=by omega
  subst e
  exact .inl ⟨⟨xs,q,Ya _⟩,hd σ H p⟩
theorem Znz {K:PySem.W.Frag}{a:Addr}{xs:List V}{g:TG}{tb:TS}{D:Ends}{σ:St}{H:Hp} (Pv:Nat->St->Hp->Prop) (h0:Pv 0 σ H) (hl:∀i σ H,i<=xs.length->Pv i σ H->SqT K H a xs)
  (hs:∀i x σ H,xs[i]?=some x->Pv i σ H->g x σ H fun σ2 H2=>tb {D with nx:=Pv (i+1),ct:=Pv (i+1),bk:=D.nx} σ2 H2) (hd:∀σ H,Pv xs.length σ H->D.nx σ H) :
  ∃W:Nat->Nat->St->Hp->Prop,(∃m,W 0 m σ H)/\∀i m σ H,W i m σ H ->
   ((Itt K a).stop i H/\D.nx σ H)\/((Itt K a).go i H/\∃N:St->Hp->Prop,(∀σ' H',N σ' H'->∃m',m'<m/\W (i+1) m' σ' H')/\∀x H',(Itt K a).yld i H x H'->g x σ H' fun σ2 H2=>tb {D with nx:=N,ct:=N,bk:=D.nx} σ2 H2):=by
 refine⟨λi m σ H=>m=xs.length-i/\i<=xs.length/\Pv i σ H,⟨xs.length,by simp,Yr _,h0⟩,?_⟩
 rintro i m σ H ⟨rfl,hi,p⟩
 have q:=hl i σ H hi p
 by_cases hlt:i<xs.length
 ·refine .inr ⟨⟨xs,xs[i],q,by simp[hlt]⟩,Pv (i+1),fun σ' H' p'=>⟨xs.length-(i+1),by omega,rfl,hlt,p'⟩,λx H' y=>?_⟩
  obtain⟨e,y⟩:=y
  subst e
  exact hs i x σ _ (y xs q) p
 ·have e:i=xs.length:=by omega
  subst e
  exact .inl ⟨⟨xs,q,Ya _⟩,hd σ H p⟩
theorem Zal {lo:Int}{n:Nat}{g:TG}{tb:TS}{D:Ends}{σ:St}{H:Hp} (Pv:Nat->St->Hp->Prop) (h0:Pv 0 σ H)
  (hs:∀i σ H,i<n->Pv i σ H->g (.int (lo+i)) σ H fun σ2 H2=>tb {D with nx:=Pv (i+1),ct:=Pv (i+1),bk:=D.nx} σ2 H2) (hd:∀σ H,Pv n σ H->D.nx σ H) :
  ∃W:Nat->Nat->St->Hp->Prop,(∃m,W 0 m σ H)/\∀i m σ H,W i m σ H ->
   ((Itr lo n).stop i H/\D.nx σ H)\/((Itr lo n).go i H/\∃N:St->Hp->Prop,(∀σ' H',N σ' H'->∃m',m'<m/\W (i+1) m' σ' H')/\∀x H',(Itr lo n).yld i H x H'->g x σ H' fun σ2 H2=>tb {D with nx:=N,ct:=N,bk:=D.nx} σ2 H2):=by
 refine⟨λi m σ H=>m=n-i/\i<=n/\Pv i σ H,⟨n,by simp,Yr _,h0⟩,?_⟩
 rintro i m σ H ⟨rfl,hi,p⟩
 by_cases hlt:i<n
 ·refine .inr ⟨hlt,Pv (i+1),fun σ' H' p'=>⟨n-(i+1),by omega,rfl,hlt,p'⟩,λx H' y=>?_⟩
  obtain⟨e,y⟩:=y
  subst e y
  exact hs i σ _ hlt p
 ·have e:i=n:=by omega
  subst e
  exact .inl ⟨Ya _,hd σ H p⟩
noncomputable abbrev R2:=V->V->Hp->VK->Prop
noncomputable def OpR (X:Cx) (f:Value->Value->Sem Value) (r:R2):Prop :=
 ∀(pins:List (Addr×Obj)) (s:Shared) (σ:St) (H:Hp) (x y:V) (v u:Value) (Q:VK),Inv X pins σ H s->RelV x v->RelV y u->r x y H Q ->
  wpAny (model X.prog X.w) X.A (f v u) (EP X pins σ Q) X.xe s
noncomputable def UnR (X:Cx) (f:Value->Sem Value) (r:V->Hp->VK->Prop):Prop :=
 ∀(pins:List (Addr×Obj)) (s:Shared) (σ:St) (H:Hp) (x:V) (v:Value) (Q:VK),Inv X pins σ H s->RelV x v->r x H Q ->
  wpAny (model X.prog X.w) X.A (f v) (EP X pins σ Q) X.xe s
noncomputable def ZaI (X:Cx) (f:Value) (r:List V->Hp->VK->Prop):Prop :=
 ∀(pins:List (Addr×Obj)) (s:Shared) (σ:St) (H:Hp) (xs:List V) (us:List Value) (Q:VK),Inv X pins σ H s->Vals xs us->r xs H Q ->
  wpAny (model X.prog X.w) X.A (call f us) (EP X pins σ Q) X.xe s
noncomputable def tOp (r:R2) (ta tb:TE):TE:=fun σ H Q=>ta σ H λx H1=>tb σ H1 λy H2=>r x y H2 Q
noncomputable def tUn (r:V->Hp->VK->Prop) (ta:TE):TE:=fun σ H Q=>ta σ H λx H1=>r x H1 Q
noncomputable def rI (C:Int->Int->Prop) (g:Int->Int->V):R2:=λx y H Q=>∃i j,x=.int i/\y=.int j/\C i j/\Q (g i j) H
noncomputable def rI0 (g:Int->Int->V):R2:=λx y H Q=>∃i j,x=.int i/\y=.int j/\Q (g i j) H
noncomputable def rU (g:Int->V):V->Hp->VK->Prop:=λx H Q=>∃i,x=.int i/\Q (g i) H
section
variable {X:Cx}{a b c:Expr}{ta tb tc:TE}{pos:Pos}
theorem binT (ha:PE X a ta) (hb:PE X b tb) {pins:List (Addr×Obj)}{s:Shared}{σ:St}{H:Hp}{R:V->V->Hp->Prop} (I:Inv X pins σ H s)
  (h:ta σ H λx H1=>tb σ H1 λy H2=>R x y H2) {Q:Value->Shared->Prop}{f:Value->Value->Sem Value}
  (hf:∀v u s2 x y H2,Inv X pins σ H2 s2->RelV x v->RelV y u->R x y H2->wpAny (model X.prog X.w) X.A (f v u) Q X.xe s2) :
  wpAny (model X.prog X.w) X.A (eval a X.env) (λv s₁=>wpAny (model X.prog X.w) X.A (eval b X.env) (λu s₂=>wpAny (model X.prog X.w) X.A (f v u) Q X.xe s₂) X.xe s₁) X.xe s:=by
 refine thn (ha pins s σ H _ I h) λv s1 ⟨x,H1,I1,r1,q1⟩=>?_
 refine thn (hb pins s1 σ H1 _ I1 q1) λu s2 ⟨y,H2,I2,r2,q2⟩=>?_
 exact hf v u s2 x y H2 I2 r1 r2 q2
theorem Zj {op:Operator}{r:R2} (ho:OpR X (binaryOp op) r) (ha:PE X a ta) (hb:PE X b tb):PE X (.BinOp a op b pos) (tOp r ta tb):=by
 intro pins s σ H Q I h
 exact wpAny_BinOp (binT ha hb I h λv u s2 x y H2 I2 rx ry q=>ho pins s2 σ H2 x y v u Q I2 rx ry q)
theorem Zj9 {op:UnaryOp}{r:V->Hp->VK->Prop} (ho:UnR X (unaryOp op) r) (ha:PE X a ta):PE X (.UnaryOp op a pos) (tUn r ta):=by
 intro pins s σ H Q I h
 exact UnaryOp_ (thn (ha pins s σ H _ I h) λv s1 ⟨x,H1,I1,r1,q1⟩=>ho pins s1 σ H1 x v Q I1 r1 q1)
theorem opI {f:Value->Value->Sem Value}{C:Int->Int->Prop}{g:Int->Int->Int}
  (rule:∀(i j:Int) (t u:Tok) (s:Shared) (Q:Value->Shared->Prop) (E:Value->Shared->Prop),C i j->Q (.int (g i j) s.toks) {s with toks:=s.toks+1}->wpAny (model X.prog X.w) X.A (f (.int i t) (.int j u)) Q E s) :
  OpR X f (rI C λi j=>.int (g i j)):=by
 intro pins s σ H x y v u Q I rx ry h
 obtain⟨i,j,rfl,rfl,hc,q⟩:=h
 obtain⟨t,rfl⟩:=rx
 obtain⟨t',rfl⟩:=ry
 exact rule i j t t' s _ _ hc ⟨.int (g i j),H,I.tok _,⟨_,rfl⟩,q⟩
theorem opI0 {f:Value->Value->Sem Value}{g:Int->Int->Int}
  (rule:∀(i j:Int) (t u:Tok) (s:Shared) (Q:Value->Shared->Prop) (E:Value->Shared->Prop),Q (.int (g i j) s.toks) {s with toks:=s.toks+1}->wpAny (model X.prog X.w) X.A (f (.int i t) (.int j u)) Q E s) :
  OpR X f (rI0 λi j=>.int (g i j)):=by
 intro pins s σ H x y v u Q I rx ry h
 obtain⟨i,j,rfl,rfl,q⟩:=h
 obtain⟨t,rfl⟩:=rx
 obtain⟨t',rfl⟩:=ry
 exact rule i j t t' s _ _ ⟨.int (g i j),H,I.tok _,⟨_,rfl⟩,q⟩
theorem opB0 {f:Value->Value->Sem Value}{g:Int->Int->Bool}
  (rule:∀(i j:Int) (t u:Tok) (s:Shared) (Q:Value->Shared->Prop) (E:Value->Shared->Prop),Q (.bool (g i j)) s->wpAny (model X.prog X.w) X.A (f (.int i t) (.int j u)) Q E s) :
  OpR X f (rI0 λi j=>.bl (g i j)):=by
 intro pins s σ H x y v u Q I rx ry h
 obtain⟨i,j,rfl,rfl,q⟩:=h
 obtain⟨t,rfl⟩:=rx
 obtain⟨t',rfl⟩:=ry
 exact rule i j t t' s _ _ ⟨.bl (g i j),H,I,rfl,q⟩
noncomputable def ZhF (i j:Int):Prop:=0<=j/\j<=1000000/\i.natAbs<2 ^ 64
theorem Zy:OpR X (binaryOp .Add) (rI0 λi j=>.int (i+j)):=opI0 λ_ _ _ _ _ _ _ q=>add_int q
theorem ZZ:OpR X (binaryOp .Sub) (rI0 λi j=>.int (i-j)):=opI0 λ_ _ _ _ _ _ _ q=>sub_int q
theorem Zew:OpR X (binaryOp .Mod) (rI (λ_ j=>0<j) λi j=>.int (i % j)):=opI λi j _ _ _ _ _ hc q=>by
 have h1:(0:Int)<j:=hc
 exact mod_int' (by omega) (by rw[Int.fmod_eq_emod_of_nonneg i (by omega)];exact q)
theorem Zcw:OpR X (binaryOp .Pow) (rI ZhF λi j=>.int (i ^ j.toNat)):=opI λ_ _ _ _ _ _ _ hc q=>pow_int_small hc.1 hc.2.1 hc.2.2 q
theorem unI {f:Value->Sem Value}{g:Int->Int}
  (rule:∀(i:Int) (t:Tok) (s:Shared) (Q:Value->Shared->Prop) (E:Value->Shared->Prop),Q (.int (g i) s.toks) {s with toks:=s.toks+1}->wpAny (model X.prog X.w) X.A (f (.int i t)) Q E s) :
  UnR X f (rU λi=>.int (g i)):=by
 intro pins s σ H x v Q I rx h
 obtain⟨i,rfl,q⟩:=h
 obtain⟨t,rfl⟩:=rx
 exact rule i t s _ _ ⟨.int (g i),H,I.tok _,⟨_,rfl⟩,q⟩
theorem ZhG:UnR X (unaryOp .USub) (rU λi=>.int (-i)):=unI λ_ _ _ _ _ q=>neg_int q
end
noncomputable def Zir:V->V->Bool
 |.non,.non=>true|.non,.int _=>true|.int _,.non=>true|.non,.bl _=>true|.bl _,.non=>true|.non,.str _=>true|.str _,.non=>true
 |.int _,.int _=>true|.bl _,.bl _=>true|.str _,.str _=>true|.byt _,.byt _=>true
 |.int _,.str _=>true|.str _,.int _=>true|.bl _,.str _=>true|.str _,.bl _=>true
 |_,_=>false
noncomputable def rEq:R2:=λx y H Q=>Zir x y=true/\Q (.bl (decide (x=y))) H
noncomputable def rNe:R2:=λx y H Q=>Zir x y=true/\Q (.bl (!decide (x=y))) H
theorem Zka {i j:Int}:decide (V.int i=V.int j)=(i==j):=by
 rw[Bool.eq_iff_iff]
 simp
theorem ZlW {i j:Bool}:decide (V.bl i=V.bl j)=(i==j):=by
 rw[Bool.eq_iff_iff]
 simp
theorem Zkb {i j:Str}:decide (V.str i=V.str j)=(i==j):=by
 rw[Bool.eq_iff_iff]
 simp
theorem Zkc {i j:Array UInt8}:decide (V.byt i=V.byt j)=(i.toList==j.toList):=by
 rw[Bool.eq_iff_iff]
 cases i
 cases j
 simp
section
variable {X:Cx}{a b c:Expr}{ta tb tc:TE}{pos:Pos}
theorem ZH {pins:List (Addr×Obj)}{σ:St}{H:Hp}{s:Shared}{Q:VK}{k k':Bool} (I:Inv X pins σ H s) (q:Q (.bl k) H) (e:k=k'):EP X pins σ Q (.bool k') s:=by
 subst e
 exact⟨.bl k,H,I,rfl,q⟩
theorem ZaV:OpR X (compareOp .Eq) rEq:=by
 intro pins s σ H x y v u Q I rx ry h
 obtain⟨hs,q⟩:=h
 cases x with
 |non =>
  cases rx
  cases y with
  |non=>cases ry;exact PySem.EqNone.eq_none_none (ZH I q (by simp))
  |bl j=>cases ry;exact PySem.EqNone.eq_none_bool (ZH I q (by simp))
  |int j=>obtain⟨t',rfl⟩:=ry;exact PySem.EqNone.eq_none_int (ZH I q (by simp))
  |str j=>obtain⟨t',rfl⟩:=ry;exact PySem.EqNone.eq_none_str (ZH I q (by simp))
  |_=>exact absurd (show false=true from hs) Yz
 |bl i =>
  cases rx
  cases y with
  |non=>cases ry;exact PySem.EqNone.eq_bool_none (ZH I q (by simp))
  |bl j=>cases ry;exact eq_bool (ZH I q ZlW)
  |str j=>obtain⟨t',rfl⟩:=ry;exact PySem.EqMixed.eq_bool_str (ZH I q (by simp))
  |_=>exact absurd (show false=true from hs) Yz
 |int i =>
  obtain⟨t,rfl⟩:=rx
  cases y with
  |non=>cases ry;exact PySem.EqNone.eq_int_none (ZH I q (by simp))
  |int j=>obtain⟨t',rfl⟩:=ry;exact eq_int (ZH I q Zka)
  |str j=>obtain⟨t',rfl⟩:=ry;exact PySem.EqMixed.eq_int_str (ZH I q (by simp))
  |_=>exact absurd (show false=true from hs) Yz
 |str i =>
  obtain⟨t,rfl⟩:=rx
  cases y with
  |non=>cases ry;exact PySem.EqNone.eq_str_none (ZH I q (by simp))
  |bl j=>cases ry;exact PySem.EqMixed.eq_str_bool (ZH I q (by simp))
  |int j=>obtain⟨t',rfl⟩:=ry;exact PySem.EqMixed.eq_str_int (ZH I q (by simp))
  |str j=>obtain⟨t',rfl⟩:=ry;exact eq_str (ZH I q Zkb)
  |_=>exact absurd (show false=true from hs) Yz
 |byt i =>
  obtain⟨t,rfl⟩:=rx
  cases y with
  |byt j=>obtain⟨t',rfl⟩:=ry;exact PySem.W.eq_bytes (ZH I q Zkc)
  |_=>exact absurd (show false=true from hs) Yz
 |_=>cases y<;>exact absurd (show false=true from hs) Yz
theorem Zgg:OpR X (compareOp .NotEq) rNe:=by
 intro pins s σ H x y v u Q I rx ry h
 obtain⟨hs,q⟩:=h
 cases x with
 |non =>
  cases rx
  cases y with
  |non=>cases ry;exact PySem.EqNone.ne_none_none (ZH I q (by simp))
  |bl j=>cases ry;exact PySem.EqNone.ne_none_bool (ZH I q (by simp))
  |int j=>obtain⟨t',rfl⟩:=ry;exact PySem.EqNone.ne_none_int (ZH I q (by simp))
  |str j=>obtain⟨t',rfl⟩:=ry;exact PySem.EqNone.ne_none_str (ZH I q (by simp))
  |_=>exact absurd (show false=true from hs) Yz
 |bl i =>
  cases rx
  cases y with
  |non=>cases ry;exact PySem.EqNone.ne_bool_none (ZH I q (by simp))
  |bl j=>cases ry;exact ne_bool (ZH I q (congrArg not ZlW))
  |str j=>obtain⟨t',rfl⟩:=ry;exact PySem.EqMixed.ne_bool_str (ZH I q (by simp))
  |_=>exact absurd (show false=true from hs) Yz
 |int i =>
  obtain⟨t,rfl⟩:=rx
  cases y with
  |non=>cases ry;exact PySem.EqNone.ne_int_none (ZH I q (by simp))
  |int j=>obtain⟨t',rfl⟩:=ry;exact ne_int (ZH I q (congrArg not Zka))
  |str j=>obtain⟨t',rfl⟩:=ry;exact PySem.EqMixed.ne_int_str (ZH I q (by simp))
  |_=>exact absurd (show false=true from hs) Yz
 |str i =>
  obtain⟨t,rfl⟩:=rx
  cases y with
  |non=>cases ry;exact PySem.EqNone.ne_str_none (ZH I q (by simp))
  |bl j=>cases ry;exact PySem.EqMixed.ne_str_bool (ZH I q (by simp))
  |int j=>obtain⟨t',rfl⟩:=ry;exact PySem.EqMixed.ne_str_int (ZH I q (by simp))
  |str j=>obtain⟨t',rfl⟩:=ry;exact ne_str (ZH I q (congrArg not Zkb))
  |_=>exact absurd (show false=true from hs) Yz
 |byt i =>
  obtain⟨t,rfl⟩:=rx
  cases y with
  |byt j=>obtain⟨t',rfl⟩:=ry;exact PySem.W.ne_bytes (ZH I q (congrArg not Zkc))
  |_=>exact absurd (show false=true from hs) Yz
 |_=>cases y<;>exact absurd (show false=true from hs) Yz
theorem Zcd:OpR X (compareOp .Lt) (rI0 λi j=>.bl (decide (i<j))):=opB0 λ_ _ _ _ _ _ _ q=>lt_int q
theorem Zdz:OpR X (compareOp .LtE) (rI0 λi j=>.bl (decide (i<=j))):=opB0 λ_ _ _ _ _ _ _ q=>le_int q
theorem Zis:OpR X (compareOp .Gt) (rI0 λi j=>.bl (decide (j<i))):=opB0 λ_ _ _ _ _ _ _ q=>gt_int q
theorem ZlX:OpR X (compareOp .GtE) (rI0 λi j=>.bl (decide (j<=i))):=opB0 λ_ _ _ _ _ _ _ q=>ge_int q
theorem op_isN:OpR X (compareOp .Is) (λx y H Q=>y=.non/\Q (.bl (decide (x=.non))) H):=by
 intro pins s σ H x y v u Q I rx ry h
 obtain⟨rfl,q⟩:=h
 cases ry
 refine is_none_gen (ZH I q ?_)
 cases x<;>first
  |(cases rx;rfl)
  |(obtain⟨t,rfl⟩:=rx;rfl)
theorem Zr (b:Expr) {op:CmpOp} (h:op≠.In:=by decide) (h2:op≠.NotIn:=by decide):behindInMarks op b=false:=by
 have e1:(op==CmpOp.In)=false:=by cases op<;>first|rfl|exact absurd rfl h
 have e2:(op==CmpOp.NotIn)=false:=by cases op<;>first|rfl|exact absurd rfl h2
 cases b<;>simp[behindInMarks,e1,e2]
theorem ZcW {op:CmpOp}{r:R2} (ho:OpR X (compareOp op) r) (ha:PE X a ta) (hb:PE X b tb) (hm:behindInMarks op b=false):PE X (.Compare a [op] [b] pos) (tOp r ta tb):=by
 intro pins s σ H Q I h
 exact wpAny_Compare1 (binT ha hb I h λv u s2 x y H2 I2 rx ry q=>ho pins s2 σ H2 x y v u Q I2 rx ry q) hm
noncomputable def Zkd (t:TE):TT:=fun σ H Q=>t σ H λx H'=>∃k,x=.bl k/\Q k H'
theorem Zo {op:CmpOp}{r:R2} (ho:OpR X (compareOp op) r) (ha:PE X a ta) (hb:PE X b tb) (hm:behindInMarks op b=false):PT X (.Compare a [op] [b] pos) (Zkd (tOp r ta tb)):=by
 intro pins s σ H Q I h
 refine wpAny_isTrue_Compare1 (thn (ha pins s σ H _ I h) λv s1 ⟨x,H1,I1,r1,q1⟩=>thn (hb pins s1 σ H1 _ I1 q1) λu s2 ⟨y,H2,I2,r2,q2⟩ =>
  thn (ho pins s2 σ H2 x y v u _ I2 r1 r2 q2) λc s3 ⟨z,H3,I3,r3,k,e,q3⟩=>?_) hm
 subst e
 cases r3
 exact wpAny_truthy_bool ⟨H3,I3,q3⟩
noncomputable def ZlY (r r':R2) (ta tb tc:TE):TE:=fun σ H Q=>ta σ H λx H1=>tb σ H1 λy H2=>r x y H2 λz H3=>∃k,z=.bl k /\
 (if k=true then tc σ H3 λw' H4=>r' y w' H4 Q else Q (.bl false) H3)
theorem Zit {op op':CmpOp}{r r':R2} (ho:OpR X (compareOp op) r) (ho':OpR X (compareOp op') r') (ha:PE X a ta) (hb:PE X b tb) (hc:PE X c tc)
  (hm:lastMarks [op,op'] [b,c]=false:=by with_unfolding_all rfl):PT X (.Compare a [op,op'] [b,c] pos) (Zkd (ZlY r r' ta tb tc)):=by
 intro pins s σ H Q I h
 refine isTrue_chain (thn (ha pins s σ H _ I h) λv s1 ⟨x,H1,I1,r1,q1⟩=>test_link (thn (hb pins s1 σ H1 _ I1 q1) λu s2 ⟨y,H2,I2,r2,q2⟩ =>
  thn (ho pins s2 σ H2 x y v u _ I2 r1 r2 q2) λd s3 ⟨z,H3,I3,r3,k,e,q3⟩=>?_)) hm
 subst e
 cases r3
 refine wpAny_truthy_bool ?_
 cases k with
 |false =>
  obtain⟨k',e',q'⟩:=q3
  cases e'
  exact ite_ff ⟨H3,I3,q'⟩
 |true =>
  refine ite_tt (test_last (thn (hc pins s3 σ H3 _ I3 q3) λw' s4 ⟨z',H4,I4,r4,q4⟩=>thn (ho' pins s4 σ H4 y z' u w' _ I4 r2 r4 q4) λd' s5 ⟨z2,H5,I5,r5,k2,e2,q5⟩=>?_))
  subst e2
  cases r5
  exact wpAny_truthy_bool ⟨H5,I5,q5⟩
theorem ZhH:(sizeLine:Nat)<2 ^ 63:=by rw[sizeLine_eq];decide
theorem vals1 {x:V}{us:List Value} (r:Vals [x] us):∃u,us=[u]/\RelV x u:=by
 cases r with
 |cons r1 r2=>cases r2;exact⟨_,rfl,r1⟩
theorem vals2 {x y:V}{us:List Value} (r:Vals [x,y] us):∃u w',us=[u,w']/\RelV x u/\RelV y w':=by
 cases r with
 |cons r1 r2 =>
  cases r2 with
  |cons r3 r4=>cases r4;exact⟨_,_,rfl,r1,r3⟩
theorem ZkI (hc:X.calm=true):ZaI X (.builtin "max") (λxs H Q=>∃i j,xs=[.int i,.int j]/\Q (.int (if j>i then j else i)) H):=by
 intro pins s σ H xs us Q I r h
 obtain⟨i,j,rfl,q⟩:=h
 obtain⟨u,w',rfl,⟨t,rfl⟩,⟨t',rfl⟩⟩:=vals2 r
 refine max_two_ints (I.ok.hd hc) λh' tk k=>⟨_,H,I.kept k,?_,q⟩
 by_cases hj:j>i
 ·rw[Yd hj,Yd hj];exact⟨_,rfl⟩
 ·rw[Ye hj,Ye hj];exact⟨_,rfl⟩
theorem ZkJ (hc:X.calm=true):ZaI X (.builtin "min") (λxs H Q=>∃i j,xs=[.int i,.int j]/\Q (.int (if j<i then j else i)) H):=by
 intro pins s σ H xs us Q I r h
 obtain⟨i,j,rfl,q⟩:=h
 obtain⟨u,w',rfl,⟨t,rfl⟩,⟨t',rfl⟩⟩:=vals2 r
 refine min_two_ints (I.ok.hd hc) λh' tk k=>⟨_,H,I.kept k,?_,q⟩
 by_cases hj:j<i
 ·rw[Yd hj,Yd hj];exact⟨_,rfl⟩
 ·rw[Ye hj,Ye hj];exact⟨_,rfl⟩
theorem ZkK:ZaI X (.type "int") (λxs H Q=>(∃i,xs=[.int i]/\Q (.int i) H)\/∃k,xs=[.bl k]/\Q (.int (if k then 1 else 0)) H):=by
 intro pins s σ H xs us Q I r h
 rcases h with⟨i,rfl,q⟩|⟨k,rfl,q⟩
 ·obtain⟨u,rfl,t,rfl⟩:=vals1 r
  exact call_int_int ⟨.int i,H,I,⟨_,rfl⟩,q⟩
 ·obtain⟨u,rfl,r1⟩:=vals1 r
  cases r1
  exact call_int_bool ⟨.int (if k then 1 else 0),H,I.tok _,⟨_,rfl⟩,q⟩
end
structure ObjM (h:Heap) (x dx C:Addr) (mA:Str->Option Value):Prop where
 obj:h.get? x=some (PySem.W.instObj C dx)
 ns:h.Ns1 dx mA
 ne:dx≠x
theorem ZkL {h:Heap}{dx:Addr}{mA:Str->Option Value} (n:h.Ns1 dx mA):∃od,h.get? dx=some od/\∀name,PySem.W.lookIn name od=some (mA name):=by
 obtain⟨o,es,ep,ho,hd,hk,_,hm⟩:=n
 refine⟨o,ho,λname=>?_⟩
 have e:=hm name
 unfold nsFind findBy at e
 rw[<-Array.find?_toList]at e
 unfold PySem.W.lookIn
 rw[hd]
 dsimp only
 split
 ·rename_i y q
  rw[q]at e
  exact congrArg some e
 ·rename_i q
  rw[q]at e
  have a:es.toList.any (·.refKey)=false:=by
   rw[List.any_eq_false]
   intro y hy
   obtain⟨z,t,hkey⟩:=hk y (Array.mem_toList_iff.mp hy)
   simp[DictEntry.refKey,hkey]
  have a':¬ es.toList.any (·.refKey)=true:=by rw[a];exact Yz
  rw[Ye a']
  exact congrArg some e
theorem ObjM.look {h:Heap}{x dx C:Addr}{mA:Str->Option Value} (I:ObjM h x dx C mA):∃od,PySem.W.InstAt h x (PySem.W.instObj C dx) C (some od)/\∀name,PySem.W.lookIn name od=some (mA name) :=
 let ⟨od,ho,hl⟩:=ZkL I.ns
 ⟨od,⟨I.obj,rfl,rfl,ho⟩,hl⟩
section
variable {P:Program}{w:World}{H H':Hp}{h h':Heap}{a C dx:Addr}{fs fs':List (Str×V)}
theorem ZnA (hok:HOk P w H h) (e:H a=some (.ins C dx fs)):∃mA,ObjM h a dx C mA/\(∀f,RelO (fs.lookup f) (mA f))/\PySem.Within mA (fs.map (·.1))/\fs.length<=1000/\H dx=some (.own a):=by
 obtain⟨d,z,ne,ob,mA,n,r,q⟩:=(show Zas P w H h a (.ins C dx fs)from hok a _ e)
 exact⟨mA,⟨ob,n,ne⟩,r,q,z,d⟩
end
structure Cls (K:PySem.W.Frag) (C:Addr):Prop where
 pg:PySem.W.plainGet K C Str.empty=true
 hd:PySem.W.hasDictIn K C=true
 po:PySem.W.plainOver K C=true
 sa:PySem.W.findIn K (.ref C) "__setattr__"=some (some (.builtin "object.__setattr__"))
theorem Cls.get {K:PySem.W.Frag}{C:Addr} (c:Cls K C) (f:Str):PySem.W.plainGet K C f=true:=c.pg
section
variable {X:Cx}{pins:List (Addr×Obj)}{σ:St}{H:Hp}{s:Shared}{A:Around}{E:Value->Shared->Prop}{Q:Value->Shared->Prop}{c:Value}{b:Bool}
inductive TyOf (K:PySem.W.Frag) (H:Hp):V->Value->Prop where
 |non:TyOf K H .non (.type "NoneType")
 |bl (x:Bool):TyOf K H (.bl x) (.type "bool")
 |int (i:Int):TyOf K H (.int i) (.type "int")
 |str (x:Str):TyOf K H (.str x) (.type "str")
 |flt (x:UInt64):TyOf K H (.flt x) (.type "float")
 |lst {a:Addr}{xs:List V} (e:H a=some (.lst xs)):TyOf K H (.ref a) (.type "list")
 |frz {a:Addr}{o:Obj}{xs:List V} (e:H a=some (.frz o (.lst xs))):TyOf K H (.ref a) (.type "list")
 |tup {a:Addr}{xs:List V} (e:H a=some (.tup xs)):TyOf K H (.ref a) (.type "tuple")
 |dK {a:Addr}{kvs:List (Key×V)} (e:H a=some (.dK kvs)):TyOf K H (.ref a) (.type "dict")
 |dT {a:Addr}{kvs:List (List Key×V)} (e:H a=some (.dT kvs)):TyOf K H (.ref a) (.type "dict")
 |ins {a C dx:Addr}{fs:List (Str×V)} (e:H a=some (.ins C dx fs)) (cl:Cls K C) (ha:PySem.W.findIn K (.ref C) "__class__"=some (some (.builtin "object.__class__")))
   (hn:PySem.W.specialIn K (.builtin "object.__class__") "__get__"=some (some (.builtin "getset_descriptor.__get__"))) (htk:PySem.W.takesIn K (.builtin "object.__class__")=some true)
   (hm:PySem.W.mroIn K C (.type "object")=some true):TyOf K H (.ref a) (.ref C)
theorem ZkM {x:V}{u t:Value} (I:Inv X pins σ H s) (rx:RelV x u) (ty:TyOf X.K H x t) (e:PySem.W.kitOne X.K t c=some b) (h:∀tk,Q (.bool b) {s with toks:=tk}) :
  wpAny (model X.prog X.w) A (call (.builtin "isinstance") [u,c]) Q E s:=by
 cases ty with
 |non=>cases(show u=Value.none from rx);exact PySem.W.kia_one PySem.W.kitx_none I.kIn True.intro e (λz=>nomatch z) h
 |bl y=>cases(show u=Value.bool y from rx);exact PySem.W.kia_one PySem.W.kitx_bool I.kIn True.intro e (λz=>nomatch z) h
 |int i=>obtain⟨t,q⟩:=(show ∃t,u=Value.int i t from rx);cases q;exact PySem.W.kia_one PySem.W.kitx_int I.kIn True.intro e (λz=>nomatch z) h
 |str y=>obtain⟨t,q⟩:=(show ∃t,u=Value.str y t from rx);cases q;exact PySem.W.kia_one PySem.W.kitx_str I.kIn True.intro e (λz=>nomatch z) h
 |flt y=>obtain⟨t,q⟩:=(show ∃t,u=Value.float y t from rx);cases q;exact PySem.W.kia_one PySem.W.kitx_float I.kIn True.intro e (λz=>nomatch z) h
 |@lst a xs ea =>
  cases(show u=Value.ref a from rx)
  obtain⟨_,_,n,_,h1⟩:=(show Zas X.prog X.w H s.heap a (.lst xs)from I.hok a _ ea)
  exact PySem.W.kia_one PySem.W.kitx_list I.kIn ⟨_,h1,rfl⟩ e (λz=>nomatch z) h
 |@frz a ob xs ea =>
  cases(show u=Value.ref a from rx)
  obtain⟨_,_,_,n,_,h1⟩:=(show Zas X.prog X.w H s.heap a (.frz ob (.lst xs))from I.hok a _ ea)
  exact PySem.W.kia_one PySem.W.kitx_list I.kIn ⟨_,h1,rfl⟩ e (λz=>nomatch z) h
 |@tup a xs ea =>
  cases(show u=Value.ref a from rx)
  obtain⟨_,_,_,p⟩:=(show Zas X.prog X.w H s.heap a (.tup xs)from I.hok a _ ea)
  obtain⟨o,h1,h2,_⟩:=p
  exact PySem.W.kia_one PySem.W.kitx_tuple I.kIn ⟨o,h1,h2⟩ e (λz=>nomatch z) h
 |@dK a kvs ea =>
  cases(show u=Value.ref a from rx)
  obtain⟨_,_,vs,_,p⟩:=(show Zas X.prog X.w H s.heap a (.dK kvs)from I.hok a _ ea)
  obtain⟨o,es,ep,h1,h2,_⟩:=p
  exact PySem.W.kia_one PySem.W.kitx_dict I.kIn ⟨o,h1,h2.1⟩ e (λz=>nomatch z) h
 |@dT a kvs ea =>
  cases(show u=Value.ref a from rx)
  obtain⟨_,_,xs,_,o,es,ep,h1,h2,_⟩:=(show Zas X.prog X.w H s.heap a (.dT kvs)from I.hok a _ ea)
  exact PySem.W.kia_one PySem.W.kitx_dict I.kIn ⟨o,h1,h2.1⟩ e (λz=>nomatch z) h
 |@ins a C dx fs ea cl ha hn htk hm =>
  cases(show u=Value.ref a from rx)
  obtain⟨mA,O,_⟩:=ZnA I.hok ea
  obtain⟨od,J,_⟩:=O.look
  exact PySem.W.kia_one (PySem.W.kitx_own (cl.get _) cl.hd ha hn htk hm) I.kIn J e (λz=>nomatch z) h
end
structure Room (k:Nat) (A:Around):Prop where
 hd:A.handled=none
 dp:A.depth+3*k+5<recursionLimit
 un:A.units+16*k+200<cLine
theorem Room.mono {j k:Nat}{A:Around} (r:Room k A) (h:j<=k):Room j A:=⟨r.hd,by have:=r.dp;omega,by have:=r.un;omega⟩
theorem Room.deeper {k:Nat}{A:Around} (r:Room (k+1) A) (env:Env):Room k (A.deeper env) :=
 ⟨r.hd,by have:=r.dp;show A.depth+1+3*k+5 < _;omega,by have:=r.un;show A.units+3+16*k+200 < _;omega⟩
theorem Room.depth {k:Nat}{A:Around} (r:Room k A):A.depth<recursionLimit:=by have:=r.dp;omega
noncomputable def tNil:TA:=λ_ H Q=>Q [] H
noncomputable def tCons (ta:TE) (tr:TA):TA:=fun σ H Q=>ta σ H λx H1=>tr σ H1 λxs H2=>Q (x::xs) H2
section
variable {X:Cx}{e:Expr}{es:List Expr}{te:TE}{t:TA}{pos:Pos}
theorem Zc:PA X [] tNil:=λ_ _ _ _ H Q I h=>Calls.spliced_nil ⟨[],H,I,.nil,h⟩
theorem Za (ha:PE X e te) (hr:PA X es t) (hs:starEach (e::es) X.env=(false,eval e X.env)::starEach es X.env:=by rfl):PA X (e::es) (tCons te t):=by
 intro pos pins s σ H Q I h
 rw[hs]
 show wpAny _ _ (spliced ((false,eval e X.env)::backTo pos (starEach es X.env))) _ _ s
 refine Calls.spliced_cons (thn (ha pins s σ H _ I h) λu s1 ⟨x,H1,I1,r1,q1⟩=>?_)
 exact thn (hr pos pins s1 σ H1 _ I1 q1) λus s2 ⟨xs,H2,I2,r2,q2⟩=>⟨x::xs,H2,I2,.cons r1 r2,q2⟩
noncomputable def tTup (t:TA):TE:=fun σ H Q=>t σ H λxs H1=>xs.length<=sizeLine/\∀p,H1 p=none->Q (.ref p) (upd H1 p (.tup xs))
noncomputable def tLst (t:TA):TE:=fun σ H Q=>t σ H λxs H1=>xs.length<=sizeLine/\∀p,H1 p=none->Q (.ref p) (upd H1 p (.lst xs))
theorem Z0 {x1} (h:PA X es t):PE X (.Tuple es x1 pos) (tTup t):=by
 intro pins s σ H Q I hq
 refine wpAny_Tuple_spliced (thn (h pos pins s σ H _ I hq) λus s1 ⟨xs,H1,I1,r,z,q⟩=>⟨by rw[<-r.length];exact z,?_⟩)
 have hf:H1 s1.heap.objs.size=none:=I1.hok.fresh (Ya _)
 refine⟨.ref s1.heap.objs.size,upd H1 s1.heap.objs.size (.tup xs),I1.laid (t':=s1.toks) (λb u e=>Ys _ e) (Ya _) ?_,rfl,q _ hf⟩
 exact⟨z,us,r,⟨_,YD _ rfl,rfl,_,rfl⟩⟩
theorem ZX (h:PA X es t):PE X (.List es pos) (tLst t):=by
 intro pins s σ H Q I hq
 refine wpAny_List_spliced (thn (h pos pins s σ H _ I hq) λus s1 ⟨xs,H1,I1,r,z,q⟩=>⟨by rw[<-r.length];exact z,?_⟩)
 have hf:H1 s1.heap.objs.size=none:=I1.hok.fresh (Ya _)
 refine⟨.ref s1.heap.objs.size,upd H1 s1.heap.objs.size (.lst xs),I1.laid (t':=s1.toks) (λb u e=>Ys _ e) (Ya _) ?_,rfl,q _ hf⟩
 exact⟨z,us,0,r,YD _ rfl⟩
end
noncomputable abbrev Sp:=List V->Hp->VK->XK->Prop
noncomputable abbrev CXT:=List Env->Hp->Shared->XK->Value->Shared->Prop
structure Env0 (P:Program) (w:World) (K:PySem.W.Frag) (mg:Str->Option Value) (base:Heap) (A:Around) (outer:List Env) (s:Shared) (H:Hp):Prop where
 frames:A.frames=some outer
 mod:Mod K mg base
 bs:∀b o,base.get? b=some o->s.heap.get? b=some o/\H b=none
 bsz:base.objs.size<=s.heap.objs.size
 funs:s.heap.FunFrames base outer
 frf:∀b∈frs outer,H b=none
 hok:HOk P w H s.heap
 bare:AllBare s.gens
noncomputable def CE (outer:List Env) (P:Program) (w:World) (H:Hp) (s:Shared) (Q:VK) (u:Value) (s':Shared):Prop :=
 ∃v H',s'.os=s.os/\AllBare s'.gens/\Un (frs outer) [] H H' s.heap s'.heap/\HOk P w H' s'.heap/\RelV v u/\Q v H'
noncomputable def CR (CX:CXT) (outer:List Env) (P:Program) (w:World) (H:Hp) (s:Shared) (Q:VK) (E:XK) (r:Result) (s':Shared):Prop :=
 match r with
 |.ok (.ret u)=>CE outer P w H s Q u s'
 |.ok _=>False
 |.error e=>CX outer H s E e s'
structure FnOk (P:Program) (w:World) (K:PySem.W.Frag) (mg:Str->Option Value) (base:Heap) (CX:CXT) (k:Nat) (f:Addr) (fd:FuncData) (ps:List Str) (sp:Sp):Prop where
 len:∀vs H Q E,sp vs H Q E->vs.length=ps.length
 run:∀(A:Around) (outer:List Env) (s:Shared) (H:Hp) (args:Args) (us:List Value) (vs:List V) (Q:VK) (E:XK),Room k A->Env0 P w K mg base A outer s H->BindsTo s fd args (ps.zip us)->Vals vs us->sp vs H Q E ->
  codeAny (model P w) A (.call (.ref f) args) (CR CX outer P w H s Q E) s
section
variable {X:Cx}{pins:List (Addr×Obj)}{σ:St}{H:Hp}{s s':Shared}
theorem Inv.env0 (I:Inv X pins σ H s):Env0 X.prog X.w X.K X.mg X.base X.A X.stack s H :=
 ⟨I.ok.frames,I.ok.mod,I.bs,Yh I.ok.bsz I.sz,I.stack,I.ZhE,I.hok,I.bare⟩
theorem Inv.after {Q:VK}{u:Value} (I:Inv X pins σ H s) (h:CE X.stack X.prog X.w H s Q u s'):EP X pins σ Q u s':=by
 obtain⟨v,H',os,bare,un,hok,r,q⟩:=h
 obtain⟨hh,g,d,t,os'⟩:=s'
 obtain rfl:os'=s.os:=os
 exact⟨v,H',I.call (h':=hh) (g':=g) (d':=d) (t':=t) (ch:=[]) un hok bare (λb z=>absurd z (by simp)),r,q⟩
end
noncomputable def Zke (sp:Sp) (dvs:List V) (E:XK) (t:TA):TE:=fun σ H Q=>t σ H λvs H1=>sp (vs++dvs) H1 Q E
noncomputable def Binds (K:PySem.W.Frag) (fd:FuncData) (ps:List Str) (ds:List Value):Prop :=
 ∀(s:Shared) (us:List Value),K.In s.heap->(us++ds).length=ps.length->BindsTo s fd ⟨us,[]⟩ (ps.zip (us++ds))
theorem Binds.all {K:PySem.W.Frag}{fd:FuncData}{ps:List Str} (h:∀us:List Value,us.length=ps.length->bindArgs fd ⟨us,[]⟩=pure (ps.zip us)):Binds K fd ps []:=λs us _ hl=>by
 rw[List.append_nil]at hl⊢
 exact .of_eq (h us hl)
noncomputable def Passes (CX:CXT) (X:Cx) (E:XK):Prop:=∀(pins:List (Addr×Obj)) (σ:St) (H:Hp) (s:Shared) (e:Value) (s':Shared),Inv X pins σ H s->CX X.stack H s E e s'->X.xe e s'
section
variable {X:Cx}{CX:CXT}{k:Nat}{f C:Addr}{fd:FuncData}{ps:List Str}{sp:Sp}{dvs:List V}{ds:List Value}{E:XK}{x m:Str}{p pos apos:Pos}{e o:Expr}{es:List Expr}{ta:TE}{t:TA}
theorem run_fn {pins:List (Addr×Obj)}{σ:St}{H:Hp}{s:Shared}{Q:VK}{us:List Value}{vs:List V} (F:FnOk X.prog X.w X.K X.mg X.base CX k f fd ps sp) (hr:Room k X.A) (hb:Binds X.K fd ps ds) (hd:Vals dvs ds) (hx:Passes CX X E)
  (I:Inv X pins σ H s) (r:Vals vs us) (h:sp (vs++dvs) H Q E):wpAny (model X.prog X.w) X.A (call (.ref f) us) (EP X pins σ Q) X.xe s:=by
 have r2:Vals (vs++dvs) (us++ds):=r.append hd
 have hl:(us++ds).length=ps.length:=by rw[<-r2.length];exact F.len _ _ _ _ h
 refine wpAny_call (codeAny_mono (F.run X.A X.stack s H ⟨us,[]⟩ (us++ds) (vs++dvs) Q E hr I.env0 (hb s us I.kIn hl) r2 h) λr s' hq=>?_)
 cases r with
 |error e=>exact hx pins σ H s e s' I hq
 |ok fl =>
  cases fl with
  |ret u=>exact I.after hq
  |next=>exact False.elim hq
  |brk=>exact False.elim hq
  |cont=>exact False.elim hq
theorem Zkf (F:FnOk X.prog X.w X.K X.mg X.base CX k f fd ps sp) (hr:Room k X.A) (hg:Gl X x) (hm:X.mg x=some (.ref f)) (hk:PySem.W.keepIn X.K (.ref f)=true) (hb:Binds X.K fd ps ds) (hd:Vals dvs ds) (hx:Passes CX X E)
  (ha:PA X (e::es) t) (hdb:(x==("__debug__":Str))=false:=by decide) (he:starEach (e::es) X.env=(false,eval e X.env)::starEach es X.env:=by rfl) (hpl:(backTo pos (starEach es X.env)).any (·.1)=false:=by rfl) :
  PE X (.Call (.Name x p) (e::es) [] pos) (Zke sp dvs E t):=by
 intro pins s σ H Q I h
 refine wpAny_Call_Name_kw (Zj7 I hg hm ?_ hdb)
 refine PySem.W.callWith_K (h₀:=X.base) I.ok.mod.kin hk (thn (ha pos pins s σ H _ I h) λus s1 ⟨vs,H1,I1,r,q⟩=>⟨I1.kIn,?_⟩) he hpl
 exact run_fn F hr hb hd hx I1 r q
end
structure FnScope (N P:List Str) (sc:Scope):Prop where
 kind:sc.kind=.function
 co:sc.isCoroutine=false
 gen:sc.isGenerator=false
 nd:N.Nodup
 pre:N.take P.length=P
 par:∀x∈P,sc.names.lookup x=some .local\/sc.names.lookup x=some .cell
 nofree:∀y∈sc.names,y.2≠.free
theorem Zhi {kindOf:Str->Option NameKind}{x:Str}:∀{binds:List (Str×Value)}{m:Str->Option Value},(∀v,(x,v)∉binds)->bindL kindOf binds m x=m x
 |[],_,_=>rfl
 |(n,v)::r,m,h=>by
  unfold bindL
  rw[Zhi λw hw=>h w (YM _ hw)]
  split
  ·have:x≠n:=by rintro rfl;exact h v YH
   simp[this]
  ·rfl
theorem Zhj {kindOf:Str->Option NameKind}{x:Str}:∀{binds:List (Str×Value)}{m:Str->Option Value},(∀v,(x,v)∉binds)->bindC kindOf binds m x=m x
 |[],_,_=>rfl
 |(n,v)::r,m,h=>by
  unfold bindC
  rw[Zhj λw hw=>h w (YM _ hw)]
  split
  ·rfl
  ·have:x≠n:=by rintro rfl;exact h v YH
   simp[this]
theorem Zhk {kindOf:Str->Option NameKind}{x:Str}{v:Value}:∀{P:List Str}{vs:List Value}{i:Nat}{m:Str->Option Value},P.Nodup->P[i]?=some x->vs[i]?=some v->kindOf x=some .local ->
  bindL kindOf (P.zip vs) m x=some v
 |[],_,_,_,_,h,_,_=>by simp at h
 |_::_,[],_,_,_,_,h,_=>by simp at h
 |p::P,w::vs,0,m,nd,h1,h2,hk=>by
  simp at h1 h2;subst h1;subst h2
  show bindL kindOf ((p,w)::P.zip vs) m p=_
  unfold bindL
  rw[Zhi λv hv=>(List.nodup_cons.mp nd).1 (List.of_mem_zip hv).1,Yd hk]
  simp
 |p::P,w::vs,i+1,m,nd,h1,h2,hk=>by
  show bindL kindOf ((p,w)::P.zip vs) m x=_
  unfold bindL
  exact Zhk (i:=i) (List.nodup_cons.mp nd).2 (by simpa using h1) (by simpa using h2) hk
theorem Zhl {kindOf:Str->Option NameKind}{x:Str}{v:Value}:∀{P:List Str}{vs:List Value}{i:Nat}{m:Str->Option Value},P.Nodup->P[i]?=some x->vs[i]?=some v->kindOf x≠some .local ->
  bindC kindOf (P.zip vs) m x=some v
 |[],_,_,_,_,h,_,_=>by simp at h
 |_::_,[],_,_,_,_,h,_=>by simp at h
 |p::P,w::vs,0,m,nd,h1,h2,hk=>by
  simp at h1 h2;subst h1;subst h2
  show bindC kindOf ((p,w)::P.zip vs) m p=_
  unfold bindC
  rw[Zhj λv hv=>(List.nodup_cons.mp nd).1 (List.of_mem_zip hv).1,Ye hk]
  simp
 |p::P,w::vs,i+1,m,nd,h1,h2,hk=>by
  show bindC kindOf ((p,w)::P.zip vs) m x=_
  unfold bindC
  exact Zhl (i:=i) (List.nodup_cons.mp nd).2 (by simpa using h1) (by simpa using h2) hk
noncomputable def start (N:List Str) (vs:List V):St:=vs.map some++List.replicate (N.length-vs.length) none
noncomputable def Zfp (CX:CXT) (P:Program) (w:World) (K:PySem.W.Frag) (mg:Str->Option Value) (base:Heap) (N:List Str) (qual:Str) (scope:Scope) (f:Addr) (cd:Value) (A:Around) (outer:List Env) (s:Shared) (H:Hp) (E:XK):Cx where
 prog:=P
 w:=w
 K:=K
 mg:=mg
 base:=base
 A:=A.deeper (envOfC qual scope s.heap.objs.size f cd)
 N:=N
 s₀:=s
 H₀:=H
 env:=envOfC qual scope s.heap.objs.size f cd
 outer:=outer
 stack:=envOfC qual scope s.heap.objs.size f cd::outer
 ex:=[]
 calm:=true
 fn:=λ_=>true
 pn:=[]
 xe:=λe s'=>wpAny (model P w) (A.deeper (envOfC qual scope s.heap.objs.size f cd)) (leaving (envOfC qual scope s.heap.objs.size f cd) e) (λ_ s''=>CX outer H s E e s'') (λe' s''=>CX outer H s E e' s'') s'
theorem Ziu {sc:Scope}{n:Nat}{x:Str} (h:sc.names.lookup x=some .cell):∃c,(cellsFrom n sc.names []).lookup x=some c:=by
 have q:=PySem.W.cellsFrom_some sc.names n [] (.inl h)
 exact Option.isSome_iff_exists.mp q
theorem ZkN {CX:CXT}{P:Program}{w:World}{K:PySem.W.Frag}{mg:Str->Option Value}{base:Heap}{N ps:List Str}{qual:Str}{scope:Scope}{f:Addr}{cd:Value}{A:Around}{outer:List Env}{s s1:Shared}{H:Hp}{E:XK}{us:List Value}{vs:List V}
  (S:FnScope N ps scope) (hd:A.handled=none) (e0:Env0 P w K mg base A outer s H) (hl:vs.length=ps.length) (r:Vals vs us)
  (x:InCallC s s.heap.objs.size (bindL (envOfC qual scope s.heap.objs.size f cd).kindOf (ps.zip us) λ_=>none) (cellsFrom (s.heap.objs.size+1) scope.names []) (bindC (envOfC qual scope s.heap.objs.size f cd).kindOf (ps.zip us) λ_=>none) s1) :
  Inv (Zfp CX P w K mg base N qual scope f cd A outer s H E) [] (start N vs) H s1:=by
 have hpl:ps.length<=N.length:=by have:=congrArg List.length S.pre;rw[YW]at this;omega
 obtain⟨h1,tk,rfl,hk⟩:=x.done
 have noA:∀b:Addr,b∉(Zfp CX P w K mg base N qual scope f cd A outer s H E).ex:=λb z=>absurd (show b∈([]:List Addr)from z) (by simp)
 refine⟨⟨e0.mod,S.kind,rfl,rfl,Ya _,λy z c h1 h2=>?_,λy hy=>?_,λy c _ h=>?_,λ_=>hd,Around.frames_deeper e0.frames,.inr ⟨rfl,rfl⟩,λb z=>absurd z (noA b),e0.bs,e0.bsz,λb _ _=>noA b,λb z=>absurd z (noA b),e0.funs,e0.frf⟩,
  rfl,e0.bare,Un.kept hk,⟨_,x.toInCall.ns,λi y v h1 h2 h3=>?_⟩,λy c h=>⟨_,x.cell y c h⟩,e0.hok.fresh (Ya _),λy c h=>?_,λp hp=>absurd (show p∈([]:List (Addr×Obj))from hp) (by simp),e0.hok.kept hk,?_⟩
 ·exact name_of_addr x.apart (PySem.mem_of_lookup h1) (PySem.mem_of_lookup h2)
 ·have hy:scope.names.lookup y=some .cell\/scope.names.lookup y=some .free:=hy
  rcases hy with hy|hy
  ·exact Ziu hy
  ·exact absurd rfl (S.nofree _ (PySem.mem_of_lookup hy))
 ·exact YY (x.above y c (PySem.mem_of_lookup h))
 ·have hi:i<vs.length:=by
   unfold start at h2
   by_cases hi:i<vs.length
   ·exact hi
   ·rw[Y6 (by simpa using hi)]at h2
    rw[List.getElem?_replicate]at h2
    split at h2<;>cases h2
  have ha:vs[i]?=some v:=by
   unfold start at h2
   rw[Y4 (by simpa using hi),Yt]at h2
   cases e:vs[i]? with
   |none=>rw[e]at h2;cases h2
   |some a=>rw[e]at h2;cases h2;rfl
  obtain⟨u,hu,rv⟩:=r.get ha
  have hp:ps[i]?=some y:=by
   rw[<-S.pre,List.getElem?_take_of_lt (by omega)];exact h1
  have ndP:ps.Nodup:=by rw[<-S.pre];exact S.nd.sublist (List.take_sublist _ _)
  refine⟨u,rv,?_⟩
  rcases S.par y (List.mem_of_getElem? hp)with k|k
  ·exact .inl ⟨k,Zhk ndP hp hu k⟩
  ·obtain⟨c,e⟩:=Ziu (n:=s.heap.objs.size+1) k
   refine .inr ⟨.inl k,c,e,?_⟩
   have q:=x.cell y c e
   rw[Zhl ndP hp hu (by show scope.names.lookup y≠_;rw[k];decide)]at q
   exact q
 ·exact e0.hok.fresh (YY (x.above y c (PySem.mem_of_lookup h)))
 ·unfold start
  show _=N.length
  rw[YJ,Yc,List.length_replicate]
  omega
theorem fn_of {CX:CXT}{P:Program}{w:World}{K:PySem.W.Frag}{mg:Str->Option Value}{base:Heap}{k:Nat}{f:Addr}{name qual:Str}{params:Arguments}{body:List Stmt}{scope:Scope}{dV kV doc pm cdv ct oc:Value}{an od:Option Addr}
  {osl:Array (Option Value)}{N ps:List Str}{sp:Sp} (lk:K.lookup f=some ⟨oc,od,.func (PySem.W.fnOf name qual params body scope dV kV doc pm an cdv ct),osl⟩) (hcd:PySem.W.codeIn K cdv qual=true) (S:FnScope N ps scope)
  (len:∀vs H Q E,sp vs H Q E->vs.length=ps.length)
  (hbody:∀(A:Around) (outer:List Env) (s:Shared) (H:Hp) (vs:List V) (Q:VK) (E:XK),Room k (A.deeper (envOfC qual scope s.heap.objs.size f cdv))->sp vs H Q E ->
   ∃t,PSs (Zfp CX P w K mg base N qual scope f cdv A outer s H E) body t/\t {nx:=λ_ H'=>Q .non H',rt:=Q} (start N vs) H) :
  FnOk P w K mg base CX (k+1) f (PySem.W.fnOf name qual params body scope dV kV doc pm an cdv ct) ps sp:=by
 refine⟨len,λA outer s H args us vs Q E hr e0 hb r hsp=>?_⟩
 have hl:=len _ _ _ _ hsp
 have KX:K.In s.heap:=e0.mod.kin.keeps λb o e=>(e0.bs b o e).1
 have lim:s.heap.NoLimit:=e0.mod.nolimit.keeps λb o e=>(e0.bs b o e).1
 have hkind:∀y∈ps.zip us,scope.names.lookup y.1=some .local\/(scope.names.lookup y.1=some .cell/\((cellsFrom (s.heap.objs.size+1) scope.names []).lookup y.1).isSome=true):=λ⟨n,v⟩ hy=>by
  rcases S.par n (List.of_mem_zip hy).1 with q|q
  ·exact .inl q
  ·exact .inr ⟨q,PySem.W.cellsFrom_some _ _ _ (.inl q)⟩
 refine codeAny_call_function hr.depth (KX _ _ lk) rfl S.co S.gen rfl (PySem.W.codeRec_of KX hcd) (hb _ _ _ _ ?_)
 refine wpAny_newFunctionEnv_cells S.kind hkind λenv he s1 x=>?_
 subst he
 refine⟨lim.keeps x.toInCall.keep,codeAny_func ?_⟩
 obtain⟨t,ht,hq⟩:=hbody A outer s H vs Q E (hr.deeper _) hsp
 have I:Inv (Zfp CX P w K mg base N qual scope f cdv A outer s H E) [] (start N vs) H s1:=ZkN S hr.hd e0 hl r x
 refine YR (ht [] s1 (start N vs) H _ I hq) (λfl s' hs=>?_) λe s' hs=>hs
 have fin:∀{σ':St}{H':Hp}{v:V}{u:Value},Inv (Zfp CX P w K mg base N qual scope f cdv A outer s H E) [] σ' H' s'->RelV v u->Q v H'->CE outer P w H s Q u s' :=
  λ{σ' H' v u} J rv q=>⟨v,H',J.os,J.bare,J.base,J.hok,rv,q⟩
 cases fl with
 |ret u =>
  obtain⟨v,σ',H',J,rv,q⟩:=hs
  exact fin J rv q
 |next =>
  obtain⟨σ',H',J,q⟩:=hs
  exact fin (v:=V.non) (u:=Value.none) J rfl q
 |brk =>
  obtain⟨_,_,_,q⟩:=hs
  exact False.elim q
 |cont =>
  obtain⟨_,_,_,q⟩:=hs
  exact False.elim q
section
variable {X:Cx}{x:Str}{p pos:Pos}{e:Expr}{es:List Expr}{t:TA}{id T:String}{r:List V->Hp->VK->Prop}
noncomputable def tCB (r:List V->Hp->VK->Prop) (t:TA):TE:=fun σ H Q=>t σ H λvs H1=>r vs H1 Q
theorem Zh (hc:ZaI X (.builtin id) r) (hg:Gl X x) (hm:X.mg x=none) (hv:bootBuiltins x=some (.builtin id)) (ha:PA X (e::es) t) (hn:x≠"__name__":=by decide) (hdb:(x==("__debug__":Str))=false:=by decide)
  (he:starEach (e::es) X.env=(false,eval e X.env)::starEach es X.env:=by rfl) (hpl:(backTo pos (starEach es X.env)).any (·.1)=false:=by rfl):PE X (.Call (.Name x p) (e::es) [] pos) (tCB r t):=by
 intro pins s σ H Q I h
 refine wpAny_Call_Name_kw (Zdu I hg hm hv ?_ hn hdb)
 exact PyProof.Rows.callWith_builtin1 (thn (ha pos pins s σ H _ I h) λus s1 ⟨vs,H1,I1,r1,q1⟩=>hc pins s1 σ H1 vs us Q I1 r1 q1) he hpl
theorem ZP (hc:ZaI X (.type T) r) (hg:Gl X x) (hm:X.mg x=none) (hv:bootBuiltins x=some (.type T)) (ha:PA X (e::es) t) (hn:x≠"__name__":=by decide) (hdb:(x==("__debug__":Str))=false:=by decide)
  (he:starEach (e::es) X.env=(false,eval e X.env)::starEach es X.env:=by rfl) (hpl:(backTo pos (starEach es X.env)).any (·.1)=false:=by rfl):PE X (.Call (.Name x p) (e::es) [] pos) (tCB r t):=by
 intro pins s σ H Q I h
 refine wpAny_Call_Name_kw (Zdu I hg hm hv ?_ hn hdb)
 exact PyProof.Rows.callWith_type1 (thn (ha pos pins s σ H _ I h) λus s1 ⟨vs,H1,I1,r1,q1⟩=>hc pins s1 σ H1 vs us Q I1 r1 q1) he hpl
end
end L2
namespace HT
open PySem PyProof.Rows
section
open PySem.SeqAt
open PySem.AutoSeq1 (wpAny_loadPart')
open PySem.MeetsSeq PySem.MeetsSeq2 PySem.MeetsSeq3
end
section
variable {prog:Program}{w:World}{A:Around}{E:Value->Shared->Prop}{s:Shared}
noncomputable def sIx (n d:Nat):Option Int->Nat
 |none=>d
 |some v=>if v<0 then (v+(n:Int)).toNat else min v.toNat n
theorem Zkg (n d k:Nat):sIx n d (some (k:Int))=min k n:=by
 show(if (k:Int)<0 then ((k:Int)+(n:Int)).toNat else min (k:Int).toNat n)=min k n
 rw[Ye (by omega),Int.toNat_natCast]
end
end HT
namespace L2
open PySem PySem.Spec PyProof.Rows
noncomputable abbrev TO:=St->Hp->(Option Int->Hp->Prop)->Prop
noncomputable def PO (X:Cx) (e:Option Expr) (t:TO):Prop :=
 ∀(pins:List (Addr×Obj)) (s:Shared) (σ:St) (H:Hp) (Q:Option Int->Hp->Prop),Inv X pins σ H s->t σ H Q ->
  wpAny (model X.prog X.w) X.A (evalPart e X.env) (λu s'=>∃o H',Inv X pins σ H' s'/\IsPart u o/\Q o H') X.xe s
noncomputable def Zkh:TO:=λ_ H Q=>Q none H
noncomputable def tPart (t:TE):TO:=fun σ H Q=>t σ H λx H1=>∃i,x=.int i/\Q (some i) H1
theorem intsAre_of {ns:List Int}:∀{us:List Value},Vals (ns.map V.int) us->IntsAre us ns:=by
 induction ns with
 |nil=>intro us r;rw[List.map_nil]at r;cases r;exact .nil
 |cons n ns ih =>
  intro us r
  rw[YS]at r
  cases r with
  |cons r1 r2 =>
   obtain⟨t,e⟩:=r1
   subst e
   exact .cons n t (ih r2)
section
variable {X:Cx}{e:Expr}{te:TE}{lo hi:Option Expr}{tl th:TO}{pos p2:Pos}
theorem Za4:PO X none Zkh:=by
 intro pins s σ H Q I h
 rw[evalPart_none]
 exact Yq ⟨none,H,I,.none,h⟩
theorem ZG (h:PE X e te):PO X (some e) (tPart te):=by
 intro pins s σ H Q I hw
 rw[evalPart_some]
 refine thn (h pins s σ H _ I hw) λu s1 ⟨x,H1,I1,r1,q1⟩=>?_
 obtain⟨i,rfl,q⟩:=q1
 obtain⟨t,rfl⟩:=r1
 exact⟨some i,H1,I1,.int i t,q⟩
noncomputable def SlR (X:Cx) (r:V->Option Int->Option Int->Hp->VK->Prop):Prop :=
 ∀(pins:List (Addr×Obj)) (s:Shared) (σ:St) (H:Hp) (x:V) (v vl vu:Value) (lo hi:Option Int) (sl:Addr) (Q:VK),Inv X pins σ H s->RelV x v->s.heap.IsSliceOf sl vl vu .none->IsPart vl lo->IsPart vu hi->r x lo hi H Q ->
  ∃T id,typeLookup (.type T) "__getitem__"=pure (some (.builtin id))/\s.TypeIs v T/\wpAny (model X.prog X.w) X.A (getItem v (.ref sl)) (EP X pins σ Q) X.xe s
noncomputable def tSl (r:V->Option Int->Option Int->Hp->VK->Prop) (te:TE) (tl th:TO):TE:=fun σ H Q=>te σ H λx H1=>tl σ H1 λl H2=>th σ H2 λu H3=>r x l u H3 Q
theorem ZO {r:V->Option Int->Option Int->Hp->VK->Prop} (hr:SlR X r) (he:PE X e te) (hl:PO X lo tl) (hu:PO X hi th):PE X (.Subscript e (.Slice lo hi none p2) pos) (tSl r te tl th):=by
 intro pins s σ H Q I h
 refine Subscript_ (thn (he pins s σ H _ I h) λv s1 ⟨x,H1,I1,r1,q1⟩=>?_)
 refine wpAny_Slice (thn (hl pins s1 σ H1 _ I1 q1) λvl s2 ⟨l,H2,I2,pl,q2⟩=>thn (hu pins s2 σ H2 _ I2 q2) λvu s3 ⟨u,H3,I3,pu,q3⟩=>?_)
 rw[evalPart_none]
 refine Yq ?_
 have I4:Inv X pins σ H3 {s3 with heap:=s3.heap.push {cls:=.type "slice",data:=.fields #[vl,vu,.none]}}:=I3.kept (t':=s3.toks) λb ob q=>Ys _ q
 obtain⟨T,id,hT,ht,hg⟩:=hr pins {s3 with heap:=s3.heap.push {cls:=.type "slice",data:=.fields #[vl,vu,.none]}} σ H3 x v vl vu l u s3.heap.objs.size Q I4 r1 (Heap.IsSliceOf.new ..) pl pu q3
 show wpAny (model X.prog X.w) X.A (subscriptTail e (.Slice lo hi none p2) v (.ref s3.heap.objs.size)) (EP X pins σ Q) X.xe {s3 with heap:=s3.heap.push {cls:=.type "slice",data:=.fields #[vl,vu,.none]}}
 exact tail_any (ops:=[.ref s3.heap.objs.size,v]) ht hT hg (by with_unfolding_all rfl)
noncomputable def ZbH (xs:List V) (lo hi:Option Int):List V:=(xs.drop (HT.sIx xs.length 0 lo)).take (HT.sIx xs.length xs.length hi-HT.sIx xs.length 0 lo)
theorem ZfE (xs:List V) (lo hi:Option Int):(ZbH xs lo hi).length<=xs.length:=by
 unfold ZbH
 rw[YW,YX]
 omega
end
noncomputable def ixN (n:Nat) (i:Int):Option Nat:=if 0<=i then (if i<n then some i.toNat else none)else if -(n:Int)<=i then some (i+n).toNat else none
noncomputable def atI {α:Type} (xs:List α) (i:Int):Option α:=(ixN xs.length i).bind λj=>xs[j]?
theorem Zki {n:Nat}{i:Int}{j:Nat} (h:ixN n i=some j):seqIndex? i n=some j/\j<n/\-(n:Int)<=i/\i<n:=by
 unfold ixN at h
 by_cases h0:0<=i
 ·rw[Yd h0]at h
  by_cases h1:i<n
  ·rw[Yd h1]at h
   have e:i.toNat=j:=Yx h
   exact⟨by rw[seqIndex_of h0 h1,e],by omega,by omega,h1⟩
  ·rw[Ye h1]at h;cases h
 ·rw[Ye h0]at h
  by_cases h1:-(n:Int)<=i
  ·rw[Yd h1]at h
   have e:(i+n).toNat=j:=Yx h
   exact⟨by rw[seqIndex_neg (by omega) h1,e],by omega,h1,by omega⟩
  ·rw[Ye h1]at h;cases h
theorem Zkj {α:Type}{xs:List α}{i:Int}{v:α} (h:atI xs i=some v):∃j,seqIndex? i xs.length=some j/\xs[j]?=some v/\j<xs.length/\-(xs.length:Int)<=i/\i<xs.length:=by
 unfold atI at h
 cases e:ixN xs.length i with
 |none=>rw[e]at h;cases h
 |some j =>
  rw[e]at h
  obtain⟨h1,h2,h3,h4⟩:=Zki e
  exact⟨j,h1,h,h2,h3,h4⟩
theorem Zf9 {α:Type}{xs:List α}{j:Nat}{v:α} (h:xs[j]?=some v):atI xs (j:Int)=some v:=by
 have hj:j<xs.length:=(Yn.mp h).1
 have e:ixN xs.length (j:Int)=some j:=by
  unfold ixN
  rw[Yd (by omega),Yd (by omega)];simp
 unfold atI;rw[e];exact h
noncomputable def ZnB (b:Expr):Prop:=∀o i,subscripted b false o i=operate [o,i] (getItem o i)
noncomputable def IxR (X:Cx) (r:R2):Prop :=
 ∀(value slice:Expr) (pins:List (Addr×Obj)) (s:Shared) (σ:St) (H:Hp) (x y:V) (v u:Value) (Q:VK),Inv X pins σ H s->RelV x v->RelV y u->r x y H Q ->
  subscripted slice false v u=operate [v,u] (getItem v u)->wpAny (model X.prog X.w) X.A (subscriptTail value slice v u) (EP X pins σ Q) X.xe s
noncomputable def MtR (X:Cx) (id:String) (r:V->List V->Hp->VK->Prop):Prop :=
 ∀(pins:List (Addr×Obj)) (s:Shared) (σ:St) (H:Hp) (x:V) (xs:List V) (v:Value) (us:List Value) (Q:VK),Inv X pins σ H s->RelV x v->Vals xs us->r x xs H Q ->
  wpAny (model X.prog X.w) X.A (call (.builtin id) (v::us)) (EP X pins σ Q) X.xe s
section
variable {X:Cx}{a b:Expr}{ta tb:TE}{pos:Pos}
theorem IxR.or {r r':R2} (h:IxR X r) (h':IxR X r'):IxR X (λx y H Q=>r x y H Q\/r' x y H Q):=by
 intro value slice pins s σ H x y v u Q I rx ry q hs
 rcases q with q|q
 ·exact h value slice pins s σ H x y v u Q I rx ry q hs
 ·exact h' value slice pins s σ H x y v u Q I rx ry q hs
theorem ZD {r:R2} (hr:IxR X r) (ha:PE X a ta) (hb:PE X b tb) (hs:ZnB b):PE X (.Subscript a b pos) (tOp r ta tb):=by
 intro pins s σ H Q I h
 exact Subscript_ (binT ha hb I h λv u s2 x y H2 I2 rx ry q=>hr a b pins s2 σ H2 x y v u Q I2 rx ry q (hs _ _))
noncomputable def rIxL (K:PySem.W.Frag):R2:=λx y H Q=>∃p xs i v,x=.ref p/\y=.int i/\SqL K H p xs/\atI xs i=some v/\Q v H
noncomputable def rIxT (K:PySem.W.Frag):R2:=λx y H Q=>∃p xs i v,x=.ref p/\y=.int i/\SqT K H p xs/\atI xs i=some v/\Q v H
theorem ZL:IxR X (rIxL X.K):=by
 intro value slice pins s σ H x y v u Q I rx ry h hs
 obtain⟨p,xs,i,z,rfl,rfl,hq,he,q⟩:=h
 cases rx
 obtain⟨t,rfl⟩:=ry
 obtain⟨its,r,pl,hz⟩:=I.list hq
 obtain⟨j,h1,h2,h3,h4,h5⟩:=Zkj he
 obtain⟨w,ew,rw'⟩:=r.get h2
 have hl:=r.length
 have hn:=ZhH
 have fin:EP X pins σ Q w s:=⟨z,H,I,rw',q⟩
 by_cases h0:0<=i
 ·have hj:i.toNat=j:=by
   rw[seqIndex_of h0 h5]at h1
   exact Yx h1
  exact item_listR pl.isList h0 (by omega) (by rw[hj];simpa using ew) fin hs
 ·have hj:(i+(its.toArray.size:Int)).toNat=j:=by
   rw[seqIndex_neg (by omega) h4]at h1
   rw[Ym,<-hl]
   exact Yx h1
  exact subscriptTail_builtinR (x:=w) pl.isList.typeIs slot_list_getitem.lookup
   (wpAny_getItem_list_neg (Q:=λr s'=>r=w/\EP X pins σ Q r s') pl.isList (by omega) (by rw[Ym]<;>omega) (by omega) (by rw[hj];simpa using ew) ⟨rfl,fin⟩) hs
theorem Z3:IxR X (rIxT X.K):=by
 intro value slice pins s σ H x y v u Q I rx ry h hs
 obtain⟨p,xs,i,z,rfl,rfl,hq,he,q⟩:=h
 cases rx
 obtain⟨t,rfl⟩:=ry
 obtain⟨its,r,pl,hz⟩:=I.tuple hq
 obtain⟨j,h1,h2,h3,h4,h5⟩:=Zkj he
 obtain⟨w,ew,rw'⟩:=r.get h2
 have hl:=r.length
 have hn:=ZhH
 have fin:EP X pins σ Q w s:=⟨z,H,I,rw',q⟩
 exact subscriptTail_builtinR (x:=w) pl.typeIs slot_tuple_getitem.lookup
  (getItem_tuple (j:=j) (Q:=λr s'=>r=w/\EP X pins σ Q r s') pl (by omega) (by omega) (by rw[Ym,<-hl];exact h1) (by simpa using ew) ⟨rfl,fin⟩) hs
theorem Zjt (its:List Value) (n j:Nat) (u:Value):Obj.mapSeq (·.setIfInBounds j u) {cls:=.type "list",data:=.seq its.toArray n}={cls:=.type "list",data:=.seq (its.set j u).toArray n}:=by
 simp[Obj.mapSeq]
theorem Inv.lst {pins:List (Addr×Obj)}{σ:St}{H:Hp}{s:Shared}{p:Addr}{xs:List V} (I:Inv X pins σ H s) (h:H p=some (.lst xs)) :
  ∃(its:List Value) (n:Nat),Vals xs its/\s.heap.get? p=some {cls:=.type "list",data:=.seq its.toArray n}/\xs.length<=sizeLine:=by
 obtain⟨z,its,n,r,e⟩:=I.hok p _ h
 exact⟨its,n,r,e,z⟩
theorem Inv.lstUpd {pins:List (Addr×Obj)}{σ:St}{H:Hp}{s:Shared}{p:Addr}{xs ys:List V}{its its':List Value}{n n':Nat}{f:Obj->Obj} (I:Inv X pins σ H s) (h:H p=some (.lst xs))
  (ho:s.heap.get? p=some {cls:=.type "list",data:=.seq its.toArray n}) (hf:f {cls:=.type "list",data:=.seq its.toArray n}={cls:=.type "list",data:=.seq its'.toArray n'}) (r:Vals ys its') (hz:ys.length<=sizeLine) (t:Nat) :
  Inv X pins σ (upd H p (.lst ys)) {s with heap:=s.heap.update p f,toks:=t}:=by
 have e:(s.heap.update p f).get? p=some {cls:=.type "list",data:=.seq its'.toArray n'}:=by
  rw[Heap.get?_update_self f ho (by rw[hf]<;>rfl),hf]
 refine I.write (x:=p) (e:=p) (by rw[h];trivial) (.inl rfl) (λb u hb q=>(Heap.get?_update_other _ _ (Ne.symm hb)).trans q) ⟨_,e⟩ ?_
 exact⟨hz,its',n',r,e⟩
noncomputable def rSetL:V->V->V->Hp->(Hp->Prop)->Prop:=λo i v H Q=>∃p xs k j,o=.ref p/\i=.int k/\H p=some (.lst xs)/\ixN xs.length k=some j/\Q (upd H p (.lst (xs.set j v)))
theorem set_list:PSet X rSetL:=by
 intro pins s σ H o i v ov iv u Q I ro ri rv h
 obtain⟨p,xs,k,j,rfl,rfl,hp,hj,q⟩:=h
 cases ro
 obtain⟨t,rfl⟩:=ri
 obtain⟨its,n,r,ho,hz⟩:=I.lst hp
 obtain⟨h1,h2,h3,h4⟩:=Zki hj
 have hl:=r.length
 have hn:=ZhH
 have I':Inv X pins σ (upd H p (.lst (xs.set j v))) {s with heap:=s.heap.update p (Obj.mapSeq (·.setIfInBounds j u))} :=
  I.lstUpd hp ho (Zjt its n j u) (r.set rv j) (by rw[List.length_set];exact hz) s.toks
 by_cases h0:0<=k
 ·have hk:k.toNat=j:=by
   rw[seqIndex_of h0 h4]at h1
   exact Yx h1
  exact PySem.W.ki_setAt ho h0 (by omega) (by rw[Ym,<-hl];exact h4) (by rw[hk];exact⟨_,I',q⟩)
 ·have hk:(k+(its.toArray.size:Int)).toNat=j:=by
   rw[seqIndex_neg (by omega) h3]at h1
   rw[Ym,<-hl]
   exact Yx h1
  exact PySem.W.ki_setBack ho (by omega) (by rw[Ym,<-hl];exact h3) (by omega) (by rw[hk];exact⟨_,I',q⟩)
theorem ZhI (lo hi:Option Int) (n:Nat):(sliceBounds lo hi none n).1=((HT.sIx n 0 lo:Nat):Int)/\(sliceBounds lo hi none n).2.1=((HT.sIx n n hi:Nat):Int)/\(sliceBounds lo hi none n).2.2=1:=by
 refine⟨?_,?_,rfl⟩
 ·cases lo with
  |none=>simp[sliceBounds,HT.sIx]
  |some i =>
   simp only[sliceBounds,HT.sIx,Option.getD_none,show(1:Int)>0 by decide,if_true]
   by_cases h:i<0
   ·simp only[h,if_true]<;>omega
   ·simp only[h,if_false]<;>omega
 ·cases hi with
  |none=>simp[sliceBounds,HT.sIx]
  |some i =>
   simp only[sliceBounds,HT.sIx,Option.getD_none,show(1:Int)>0 by decide,if_true]
   by_cases h:i<0
   ·simp only[h,if_true]<;>omega
   ·simp only[h,if_false]<;>omega
theorem ZgY (its:List Value) (lo hi:Option Int):slicePick its.toArray lo hi none=((its.drop (HT.sIx its.length 0 lo)).take (HT.sIx its.length its.length hi-HT.sIx its.length 0 lo)).toArray:=by
 obtain⟨h1,h2,h3⟩:=ZhI lo hi its.toArray.size
 unfold slicePick
 rw[h1,h2,h3]
 simp only[sliceRange_one,pick_run,Ym]<;>rfl
noncomputable def rSlL (K:PySem.W.Frag):V->Option Int->Option Int->Hp->VK->Prop:=λx lo hi H Q=>∃a xs,x=.ref a/\SqL K H a xs/\∀p,H p=none->Q (.ref p) (upd H p (.lst (ZbH xs lo hi)))
theorem Z1:SlR X (rSlL X.K):=by
 intro pins s σ H x v vl vu lo hi sl Q I rx hs pl pu h
 obtain⟨a,xs,rfl,hx,q⟩:=h
 cases rx
 obtain⟨its,r,ht,hz⟩:=I.list hx
 have hlen:=r.length
 refine⟨"list",_,slot_list_getitem.lookup,ht.isList.typeIs,?_⟩
 refine wpAny_getItem_list_slice ht.isList hs pl pu .none (by simp) ?_ (by rw[Ym]<;>omega)
 rw[ZgY,<-hlen]
 refine⟨.ref s.heap.objs.size,_,I.laid (t':=s.toks) (o:=.lst (ZbH xs lo hi)) (λb ob q=>Ys _ q) (Ya _) ?_,rfl,q _ (I.hok.fresh (Ya _))⟩
 exact⟨Yh (ZfE xs lo hi) hz,_,0,(r.drop (HT.sIx xs.length 0 lo)).take (HT.sIx xs.length xs.length hi-HT.sIx xs.length 0 lo),YD _ rfl⟩
noncomputable def flatV:V->Bool
 |.non=>true
 |.bl _=>true
 |.int _=>true
 |.str _=>true
 |_=>false
noncomputable def eqV:V->V->Bool
 |.non,.non=>true
 |.bl a,.bl b=>a==b
 |.bl a,.int b=>(if a then 1 else 0)==b
 |.int a,.bl b=>a==(if b then 1 else 0)
 |.int a,.int b=>a==b
 |.str a,.str b=>a==b
 |_,_=>false
theorem ZlZ {A:Around}{s:Shared}{y x:V}{u v:Value} (ry:RelV y u) (rx:RelV x v) (fy:flatV y=true) (fx:flatV x=true):SeqAt.EqAt A s u v (eqV y x):=by
 cases y with
 |non =>
  cases ry
  cases x with
  |non=>cases rx;exact SeqAt.EqAt.same _
  |bl b=>cases rx;exact SeqAt.EqAt.none_bool b
  |int b=>obtain⟨t,rfl⟩:=rx;exact SeqAt.EqAt.none_int b t
  |str b=>obtain⟨t,rfl⟩:=rx;exact SeqAt.EqAt.none_str b t
  |_=>exact absurd (show false=true from fx) Yz
 |bl a =>
  cases ry
  cases x with
  |non=>cases rx;exact SeqAt.EqAt.bool_none a
  |bl b=>cases rx;exact SeqAt.EqAt.bool_bool a b
  |int b=>obtain⟨t,rfl⟩:=rx;exact SeqAt.EqAt.bool_int a b t
  |str b=>obtain⟨t,rfl⟩:=rx;exact SeqAt.EqAt.bool_str a b t
  |_=>exact absurd (show false=true from fx) Yz
 |int a =>
  obtain⟨t',rfl⟩:=ry
  cases x with
  |non=>cases rx;exact SeqAt.EqAt.int_none a t'
  |bl b=>cases rx;exact SeqAt.EqAt.int_bool a t' b
  |int b=>obtain⟨t,rfl⟩:=rx;exact SeqAt.EqAt.int_int a t' b t
  |str b=>obtain⟨t,rfl⟩:=rx;exact SeqAt.EqAt.int_str a t' b t
  |_=>exact absurd (show false=true from fx) Yz
 |str a =>
  obtain⟨t',rfl⟩:=ry
  cases x with
  |non=>cases rx;exact SeqAt.EqAt.str_none a t'
  |bl b=>cases rx;exact SeqAt.EqAt.str_bool a t' b
  |int b=>obtain⟨t,rfl⟩:=rx;exact SeqAt.EqAt.str_int a t' b t
  |str b=>obtain⟨t,rfl⟩:=rx;exact SeqAt.EqAt.str_str a t' b t
  |_=>exact absurd (show false=true from fx) Yz
 |_=>exact absurd (show false=true from fy) Yz
noncomputable def eqU (x:V) (u:Value):Bool:=match u with
 |.none=>eqV .non x
 |.bool b=>eqV (.bl b) x
 |.int i _=>eqV (.int i) x
 |.str z _=>eqV (.str z) x
 |_=>false
theorem Zju {x y:V}{u:Value} (r:RelV y u) (f:flatV y=true):eqU x u=eqV y x:=by
 cases y with
 |non=>cases r;rfl
 |bl b=>cases r;rfl
 |int i=>obtain⟨t,rfl⟩:=r;rfl
 |str z=>obtain⟨t,rfl⟩:=r;rfl
 |_=>exact absurd (show false=true from f) Yz
theorem Ze1 {x:V}:∀{xs:List V}{us:List Value},Vals xs us->xs.all flatV=true->us.any (eqU x)=xs.any λy=>eqV y x
 |_,_,.nil,_=>rfl
 |y::xs,u::us,.cons r t,f=>by
  rw[List.all_cons,Bool.and_eq_true]at f
  rw[List.any_cons,List.any_cons,Zju r f.1,Ze1 t f.2]
theorem ZcK {A:Around}{s:Shared}{x:V}{v:Value} (rx:RelV x v) (fx:flatV x=true):∀{xs:List V}{us:List Value},Vals xs us->xs.all flatV=true->∀u∈us,SeqAt.EqAt A s u v (eqU x u)
 |_,_,.nil,_=>λu hu=>by cases hu
 |y::xs,u::us,.cons r t,f=>λu' hu=>by
  rw[List.all_cons,Bool.and_eq_true]at f
  rcases Yk.mp hu with rfl|hu
  ·rw[Zju r f.1];exact ZlZ r rx f.1 fx
  ·exact ZcK rx fx t f.2 u' hu
noncomputable def inV (x:V) (xs:List V):Bool:=xs.any λy=>eqV y x
noncomputable def rIn (K:PySem.W.Frag) (neg:Bool):R2:=λx y H Q=>∃p xs,y=.ref p/\(SqL K H p xs\/SqT K H p xs)/\flatV x=true/\xs.all flatV=true/\Q (.bl (if neg then !inV x xs else inV x xs)) H
theorem ZkO:OpR X (compareOp .In) (rIn X.K false):=by
 intro pins s σ H x y v u Q I rx ry h
 obtain⟨p,xs,rfl,hq,fx,fs,q⟩:=h
 cases ry
 rcases hq with hq|hq
 ·obtain⟨its,r,pl,hz⟩:=I.list hq
  refine SeqAt.in_listAt (eqU x) pl.isList (λw hw=>ZcK rx fx r fs w (by simpa using hw)) ⟨.bl _,H,I,rfl,?_⟩
  rw[show its.toArray.any (eqU x)=its.any (eqU x) by simp,Ze1 r fs]
  exact q
 ·obtain⟨its,r,pl,hz⟩:=I.tuple hq
  refine SeqAt.in_tupleAt (eqU x) pl (λw hw=>ZcK rx fx r fs w (by simpa using hw)) ⟨.bl _,H,I,rfl,?_⟩
  rw[show its.toArray.any (eqU x)=its.any (eqU x) by simp,Ze1 r fs]
  exact q
theorem ZhJ:OpR X (compareOp .NotIn) (rIn X.K true):=by
 intro pins s σ H x y v u Q I rx ry h
 obtain⟨p,xs,rfl,hq,fx,fs,q⟩:=h
 cases ry
 rcases hq with hq|hq
 ·obtain⟨its,r,pl,hz⟩:=I.list hq
  refine SeqAt.notIn_listAt (eqU x) pl.isList (λw hw=>ZcK rx fx r fs w (by simpa using hw)) ⟨.bl _,H,I,rfl,?_⟩
  rw[show its.toArray.any (eqU x)=its.any (eqU x) by simp,Ze1 r fs]
  exact q
 ·obtain⟨its,r,pl,hz⟩:=I.tuple hq
  refine SeqAt.notIn_tupleAt (eqU x) pl (λw hw=>ZcK rx fx r fs w (by simpa using hw)) ⟨.bl _,H,I,rfl,?_⟩
  rw[show its.toArray.any (eqU x)=its.any (eqU x) by simp,Ze1 r fs]
  exact q
theorem ZhK:ZaI X (.builtin "len") (λxs H Q=>∃p ys,xs=[.ref p]/\(SqL X.K H p ys\/SqT X.K H p ys)/\Q (.int ys.length) H):=by
 intro pins s σ H xs us Q I r h
 obtain⟨p,ys,rfl,hq,q⟩:=h
 obtain⟨u,rfl,rx⟩:=vals1 r
 cases rx
 have hn:=ZhH
 rcases hq with hq|hq
 ·obtain⟨its,r',pl,hz⟩:=I.list hq
  have hlen:=r'.length
  exact Calls.call_len_list pl.isList (by simp only[Ym]<;>omega) ⟨.int ys.length,H,I.tok _,⟨s.toks+1,by rw[Ym,hlen]⟩,q⟩
 ·obtain⟨its,r',pl,hz⟩:=I.tuple hq
  have hlen:=r'.length
  exact len_tuple pl (by simp only[Ym]<;>omega) ⟨.int ys.length,H,I.tok _,⟨s.toks+1,by rw[Ym,hlen]⟩,q⟩
theorem ZhL:ZaI X (.type "list") (λxs H Q=>∃p ys,xs=[.ref p]/\(SqL X.K H p ys\/SqT X.K H p ys)/\∀l,H l=none->Q (.ref l) (upd H l (.lst ys))):=by
 intro pins s σ H xs us Q I r h
 obtain⟨p,ys,rfl,hq,q⟩:=h
 obtain⟨u,rfl,rx⟩:=vals1 r
 cases rx
 have fin:∀(its:List Value),Vals ys its->ys.length<=sizeLine->∀(h':Heap) (c':Nat),(∀b o',s.heap.get? b=some o'->h'.get? b=some o') ->
   h'.get? s.heap.objs.size=some {cls:=.type "list",dict:=none,data:=.seq its.toArray c',slots:=#[]}->EP X pins σ Q (.ref s.heap.objs.size) {s with heap:=h'}:=λits r' hz h' c' kp e =>
  ⟨.ref s.heap.objs.size,_,I.laid (t':=s.toks) kp (Ya _) (show Zas X.prog X.w _ h' _ (.lst ys)from⟨hz,its,c',r',e⟩),rfl,q _ (I.hok.fresh (Ya _))⟩
 rcases hq with hq|hq
 ·obtain⟨its,r',pl,hz⟩:=I.list hq
  have hlen:=r'.length
  obtain⟨o,ho,hc,n,hd⟩:=pl.isList
  exact call_list_seq p (.inl rfl) ho hc hd (λh' c' kp e=>fin its r' hz h' c' kp e) (by simp only[Ym]<;>omega)
 ·obtain⟨its,r',pl,hz⟩:=I.tuple hq
  have hlen:=r'.length
  obtain⟨o,ho,hc,n,hd⟩:=pl
  exact call_list_seq p (.inr rfl) ho hc hd (λh' c' kp e=>fin its r' hz h' c' kp e) (by simp only[Ym]<;>omega)
theorem ZgZ:ZaI X (.type "tuple") (λxs H Q=>∃p ys,xs=[.ref p]/\((SqL X.K H p ys/\∀l,H l=none->Q (.ref l) (upd H l (.tup ys)))\/(SqT X.K H p ys/\Q (.ref p) H))):=by
 intro pins s σ H xs us Q I r h
 obtain⟨p,ys,rfl,h⟩:=h
 obtain⟨u,rfl,rx⟩:=vals1 r
 cases rx
 rcases h with⟨hq,q⟩|⟨hq,q⟩
 ·obtain⟨its,r',pl,hz⟩:=I.list hq
  have hlen:=r'.length
  refine call_tuple_list pl.isList (λh' kp=>?_) (by simp only[Ym]<;>omega)
  have I1:Inv X pins σ H {s with heap:=h'}:=I.kept (t':=s.toks) kp
  have I2:Inv X pins σ (upd H h'.objs.size (.tup ys)) {s with heap:=h'.push {cls:=.type "tuple",data:=.seq its.toArray}} :=
   I1.laid (t':=s.toks) (λb o e=>Ys _ e) (Ya _) (show Zas X.prog X.w _ _ _ (.tup ys)from⟨hz,its,r',IsTup.new _ _⟩)
  exact⟨.ref h'.objs.size,_,I2,rfl,q _ (I1.hok.fresh (Ya _))⟩
 ·obtain⟨its,r',pl,hz⟩:=I.tuple hq
  exact call_tuple_same pl ⟨.ref p,H,I,rfl,q⟩
noncomputable def tyV (K:PySem.W.Frag) (T:String) (x:V) (H:Hp):Prop:=match x with
 |.str _=>T="str"
 |.int _=>T="int"
 |.ref p=>(T="list"/\∃xs,SqL K H p xs)\/(T="tuple"/\∃o,K.lookup p=some o/\o.cls=.type "tuple"/\o.dict=none) \/
   (T="dict"/\((∃kvs,H p=some (.dK kvs))\/∃kvs,H p=some (.dT kvs)))\/(T="set"/\∃S n,H p=some (.set S n))
 |_=>False
theorem Zl0 {pins:List (Addr×Obj)}{σ:St}{H:Hp}{s:Shared}{T:String}{x:V}{v:Value} (I:Inv X pins σ H s) (r:RelV x v) (ty:tyV X.K T x H) :
  s.TypeIs v T/\∀a,v=.ref a->∃ob,s.heap.get? a=some ob/\ob.dict=none:=by
 cases x with
 |str z =>
  obtain⟨t,rfl⟩:=r
  cases(show T="str" from ty)
  exact⟨typeIs_str s z t,λ_ e=>nomatch e⟩
 |int i =>
  obtain⟨t,rfl⟩:=r
  cases(show T="int" from ty)
  exact⟨typeIs_int s i t,λ_ e=>nomatch e⟩
 |ref p =>
  cases r
  rcases ty with⟨rfl,xs,hq⟩|⟨rfl,o,hk,hc,hd⟩|⟨rfl,hk⟩|⟨rfl,S,n,hk⟩
  ·obtain⟨its,_,pl,_⟩:=I.list hq
   refine⟨pl.isList.typeIs,λa e=>?_⟩
   cases e
   obtain⟨o,n,e,c,hd,_⟩:=pl
   exact⟨o,e,hd⟩
  ·refine⟨⟨o,I.kIn p o hk,hc⟩,λa e=>?_⟩
   cases e
   exact⟨o,I.kIn _ o hk,hd⟩
  ·have z:∃o,s.heap.get? p=some o/\o.ExactDict:=by
    rcases hk with⟨kvs,hk⟩|⟨kvs,hk⟩
    ·obtain⟨_,_,_,_,o,_,_,e,ex,_⟩:=I.hok p _ hk
     exact⟨o,e,ex⟩
    ·obtain⟨_,_,_,_,o,_,_,e,ex,_⟩:=I.hok p _ hk
     exact⟨o,e,ex⟩
   obtain⟨o,e,ex⟩:=z
   refine⟨⟨o,e,ex.1⟩,λa e2=>?_⟩
   cases e2
   exact⟨o,e,ex.2.1⟩
  ·obtain⟨o,_,_,_,e,ex,_⟩:=I.hok p _ hk
   refine⟨⟨o,e,ex.1⟩,λa e2=>?_⟩
   cases e2
   exact⟨o,e,ex.2.1⟩
 |_=>exact False.elim ty
noncomputable def tBM0 (K:PySem.W.Frag) (T:String) (r:V->List V->Hp->VK->Prop) (to:TE):TE:=fun σ H Q=>to σ H λx H1=>tyV K T x H1/\r x [] H1 Q
noncomputable def tBM (K:PySem.W.Frag) (T:String) (r:V->List V->Hp->VK->Prop) (to:TE) (t:TA):TE:=fun σ H Q=>to σ H λx H1=>tyV K T x H1/\t σ H1 λxs H2=>r x xs H2 Q
variable {o e:Expr}{es:List Expr}{to:TE}{t:TA}{name:Str}{apos cpos:Pos}{T id:String}{r:V->List V->Hp->VK->Prop}
theorem Zl1 (pa:PlainAttrs T) (slot:Slot T name id) (hty:typeOf (.builtin id)=pure (.type "method_descriptor")) (hm:MtR X id r) (ho:PE X o to)
  (hbase:attributeBase o name X.env (eval o X.env)=eval o X.env:=by rfl) (hline:(apos.endLine==cpos.line)=true:=by rfl):PE X (.Call (.Attribute o name apos) [] [] cpos) (tBM0 X.K T r to):=by
 intro pins s σ H Q I h
 refine wpAny_Call_method0_late hbase hline (thn (ho pins s σ H _ I h) λv s1 ⟨x,H1,I1,r1,ty,q1⟩=>?_)
 obtain⟨h1,h2⟩:=Zl0 I1 r1 ty
 exact⟨T,id,pa,slot,hty,h1,h2,Calls.callWith_builtin rfl (PySem.evalArgs_none (hm pins s1 σ H1 x [] v [] Q I1 r1 .nil q1))⟩
theorem Zbl (pa:PlainAttrs T) (slot:Slot T name id) (hty:typeOf (.builtin id)=pure (.type "method_descriptor")) (hm:MtR X id r) (ho:PE X o to) (ha:PA X (e::es) t)
  (hbase:attributeBase o name X.env (eval o X.env)=eval o X.env:=by rfl)
  (hfew:((backTo cpos (starEach (e::es) X.env)).all (λx=>!x.1)&&(backToKw cpos (keywordEach [] X.env)).all (λx=>x.1.isSome)
   && decide ((e::es).length+([]:List Keyword).length+(if ([]:List Keyword).isEmpty then 0 else 1)<30))=true:=by rfl)
  (hline:(apos.endLine==cpos.line)=true:=by rfl) (hs:starEach (e::es) X.env=(false,eval e X.env)::starEach es X.env:=by rfl) (hplain:(backTo cpos (starEach es X.env)).any (·.1)=false:=by rfl) :
  PE X (.Call (.Attribute o name apos) (e::es) [] cpos) (tBM X.K T r to t):=by
 intro pins s σ H Q I h
 refine wpAny_Call_method_late hbase hfew hline rfl (thn (ho pins s σ H _ I h) λv s1 ⟨x,H1,I1,r1,ty,q1⟩=>?_)
 obtain⟨h1,h2⟩:=Zl0 I1 r1 ty
 refine⟨T,id,pa,slot,hty,h1,h2,?_⟩
 have hA:=ha cpos pins s1 σ H1 _ I1 q1
 rw[hs]at hA⊢
 refine Calls.callWith_builtin (by show(false||(backTo cpos (starEach es X.env)).any (·.1))=false;rw[hplain]<;>rfl) (Calls.evalArgs_plain ?_)
 exact thn hA λus s2 ⟨vs,H2,I2,r2,q2⟩=>hm pins s2 σ H2 x vs v us Q I2 r1 r2 q2
end
noncomputable def MtM (X:Cx) (id:String) (r:V->List V->Hp->VK->Prop):Prop :=
 ∀(pins:List (Addr×Obj)) (s:Shared) (σ:St) (H:Hp) (x:V) (xs:List V) (v:Value) (us:List Value) (Q:VK),Inv X pins σ H s->RelV x v->Vals xs us->r x xs H Q ->
  wpAny (model X.prog X.w) X.A (call (.builtin id) (v::us)) (EP X pins σ Q) X.xe s
theorem Vals.one:∀{x:V}{us:List Value},Vals [x] us->∃u,us=[u]/\RelV x u
 |_,_,.cons r .nil=>⟨_,rfl,r⟩
theorem Vals.two:∀{x y:V}{us:List Value},Vals [x,y] us->∃u v,us=[u,v]/\RelV x u/\RelV y v
 |_,_,_,.cons r (.cons q .nil)=>⟨_,_,rfl,r,q⟩
theorem Vals.zero:∀{us:List Value},Vals [] us->us=[]
 |_,.nil=>rfl
theorem Vals.eraseIdx:∀{xs:List V}{us:List Value} (i:Nat),Vals xs us->Vals (xs.eraseIdx i) (us.eraseIdx i)
 |_,_,_,.nil=>.nil
 |_,_,0,.cons _ t=>t
 |_,_,i+1,.cons r t=>.cons r (Vals.eraseIdx i t)
theorem Vals.reverse {xs:List V}{us:List Value} (h:Vals xs us):Vals xs.reverse us.reverse:=by
 induction h with
 |nil=>exact .nil
 |cons r t ih=>rw[List.reverse_cons,List.reverse_cons];exact Vals.append ih (.cons r .nil)
theorem Zhm {α:Type}:∀(l:List α) (i:Nat),(l.eraseIdx i).length<=l.length
 |[],_=>Ya _
 |_::_,0=>YT _
 |_::r,i+1=>Nat.succ_le_succ (Zhm r i)
section
variable {X:Cx}{pins:List (Addr×Obj)}{σ:St}{H:Hp}{s:Shared}{l b:Addr}{xs ys zs:List V}
theorem Inv.lset {its its':List Value}{n:Nat}{f:Array Value->Array Value}{t':Nat} (I:Inv X pins σ H s) (hH:H l=some (.lst xs))
  (e:s.heap.get? l=some {cls:=.type "list",data:=.seq its.toArray n}) (hf:f its.toArray=its'.toArray) (hv:Vals ys its') (hz:ys.length<=sizeLine) :
  Inv X pins σ (upd H l (.lst ys)) {s with heap:=s.heap.update l (Obj.mapSeq f),toks:=t'}:=by
 have q:=PySem.IsL.update e f
 rw[hf]at q
 refine I.write (x:=l) (e:=l) (by rw[hH];exact trivial) (.inl rfl) (λb' u hb hu=>(Heap.get?_update_other s.heap (Obj.mapSeq f) (Ne.symm hb)).trans hu) ⟨_,q⟩ ?_
 exact⟨hz,its',_,hv,q⟩
theorem Inv.lnew {its:List Value}{t':Nat} (I:Inv X pins σ H s) (hv:Vals ys its) (hz:ys.length<=sizeLine) :
  Inv X pins σ (upd H s.heap.objs.size (.lst ys)) {s with heap:=s.heap.push {cls:=.type "list",data:=.seq its.toArray},toks:=t'} :=
 I.laid (λ_ _ q=>Ys _ q) (Ya _) ⟨hz,its,0,hv,YD _ rfl⟩
theorem Inv.fresh (I:Inv X pins σ H s):H s.heap.objs.size=none:=I.hok.fresh (Ya _)
theorem Inv.Ziv (I:Inv X pins σ H s) (hH:H l=some (.lst xs)):xs.length<=sizeLine/\∃(its:List Value) (n:Nat),Vals xs its/\xs.length=its.length/\s.heap.get? l=some {cls:=.type "list",data:=.seq its.toArray n}:=by
 obtain⟨z,its,n,r,e⟩:=I.hok l _ hH
 exact⟨z,its,n,r,r.length,e⟩
theorem Zl2 {n:Nat} (h:n<=sizeLine):Builtin.List.listTooLong n=false:=by
 unfold Builtin.List.listTooLong
 exact Yu (by omega)
end
section
variable {X:Cx}
noncomputable def Zkk:V->List V->Hp->VK->Prop:=λx vs H Q=>∃l xs y,x=.ref l/\vs=[y]/\H l=some (.lst xs)/\xs.length<sizeLine/\Q .non (upd H l (.lst (xs++[y])))
theorem Zaz:MtM X "list.append" Zkk:=by
 intro pins s σ H x vs v us Q I rx rv h
 obtain⟨l,xs,y,rfl,rfl,hH,hz,q⟩:=h
 cases rx
 obtain⟨u,rfl,ru⟩:=rv.one
 obtain⟨z,its,n,r,hl,e⟩:=I.Ziv hH
 refine call_meets F.slot_list_append ⟨_,e,rfl⟩ F.entry_list_append (F.args_list_append_2 _ _) (PySem.list_append l its.toArray n u (by rw[Ym];omega)) ⟨e,?_⟩
 refine⟨.non,_,I.lset (its':=its++[u]) hH e (by simp) (r.append (.cons ru .nil)) ?_,rfl,q⟩
 rw[YJ,List.length_singleton]
 omega
noncomputable def Zkl:V->List V->Hp->VK->Prop:=λx vs H Q=>∃l b xs zs,x=.ref l/\vs=[.ref b]/\H l=some (.lst xs)/\H b=some (.lst zs)/\xs.length+zs.length<=sizeLine/\Q .non (upd H l (.lst (xs++zs)))
theorem ZkP:MtM X "list.extend" Zkl:=by
 intro pins s σ H x vs v us Q I rx rv h
 obtain⟨l,b,xs,zs,rfl,rfl,hH,hB,hz,q⟩:=h
 cases rx
 obtain⟨u,rfl,ru⟩:=rv.one
 cases ru
 obtain⟨z,its,n,r,hl,e⟩:=I.Ziv hH
 obtain⟨z2,its2,n2,r2,hl2,e2⟩:=I.Ziv hB
 have hsz:its.toArray.size+its2.toArray.size<=sizeLine:=by rw[Ym,Ym];omega
 have hlong:¬ (!its.toArray.isEmpty&&Builtin.List.listTooLong (its.toArray.size+its2.toArray.size))=true:=by
  rw[Zl2 hsz,Bool.and_false]
  exact Yz
 refine call_meets F.slot_list_extend ⟨_,e,rfl⟩ F.entry_list_extend (F.args_list_extend_2 _ _)
  (AutoSeq1.list_extend_list_list_0 l its.toArray n b its2.toArray n2 hlong (by rw[Ym];omega) (by omega)) ⟨e,e2,?_⟩
 refine⟨.non,_,I.lset (its':=its++its2) hH e (by simp) (r.append r2) ?_,rfl,q⟩
 rw[YJ]
 omega
noncomputable def Zl3:V->List V->Hp->VK->Prop:=λx vs H Q=>∃l xs i k y,x=.ref l/\vs=[.int i]/\H l=some (.lst xs)/\-(2 ^ 63)<=i/\i<2 ^ 63/\seqIndex? i xs.length=some k/\xs[k]?=some y/\Q y (upd H l (.lst (xs.eraseIdx k)))
theorem Zgh:MtM X "list.pop" Zl3:=by
 intro pins s σ H x vs v us Q I rx rv h
 obtain⟨l,xs,i,k,y,rfl,rfl,hH,h1,h2,hk,hy,q⟩:=h
 cases rx
 obtain⟨u,rfl,ru⟩:=rv.one
 obtain⟨t,rfl⟩:=ru
 obtain⟨z,its,n,r,hl,e⟩:=I.Ziv hH
 obtain⟨w,hw,rw'⟩:=r.get hy
 refine call_meets F.slot_list_pop ⟨_,e,rfl⟩ F.entry_list_pop (F.args_list_pop_2 _ _)
  (MeetsSeq.list_pop_at l its.toArray n i t k w (fitsIndex_both h1 h2) (by rw[Ym,<-hl];exact hk) (by rw[<-Array.getElem?_toList];exact hw) (by rw[Ym];omega)) ⟨e,?_⟩
 refine⟨y,_,I.lset (its':=its.eraseIdx k) hH e ?_ (r.eraseIdx k) ?_,rw',q⟩
 ·show its.toArray.eraseIdxIfInBounds k=(its.eraseIdx k).toArray
  rw[List.eraseIdxIfInBounds_toArray]
 ·have:=Zhm xs k
  omega
noncomputable def Ziw:V->List V->Hp->VK->Prop:=λx vs H Q=>∃l xs,x=.ref l/\vs=[]/\H l=some (.lst xs)/\Q .non (upd H l (.lst xs.reverse))
theorem Zgi:MtM X "list.reverse" Ziw:=by
 intro pins s σ H x vs v us Q I rx rv h
 obtain⟨l,xs,rfl,rfl,hH,q⟩:=h
 cases rx
 have hus:=rv.zero
 subst hus
 obtain⟨z,its,n,r,hl,e⟩:=I.Ziv hH
 refine call_meets F.slot_list_reverse ⟨_,e,rfl⟩ F.entry_list_reverse (F.args_list_reverse_1 _) (AutoSeq1.list_reverse_list_0 l its.toArray n (by rw[Ym];omega)) ⟨e,?_⟩
 refine⟨.non,_,I.lset (its':=its.reverse) hH e (by simp) r.reverse ?_,rfl,q⟩
 rw[List.length_reverse]
 omega
noncomputable def rCat:R2:=λx y H Q=>∃l b xs zs,x=.ref l/\y=.ref b/\H l=some (.lst xs)/\H b=some (.lst zs)/\xs.length+zs.length<=sizeLine/\∀p,H p=none->Q (.ref p) (upd H p (.lst (xs++zs)))
theorem Za5:OpR X (binaryOp .Add) rCat:=by
 intro pins s σ H x y v u Q I rx ry h
 obtain⟨l,b,xs,zs,rfl,rfl,hH,hB,hz,q⟩:=h
 cases rx
 cases ry
 obtain⟨z,its,n,r,hl,e⟩:=I.Ziv hH
 obtain⟨z2,its2,n2,r2,hl2,e2⟩:=I.Ziv hB
 refine PySem.P.add_list e e2 ?_ (by rw[Ym,Ym];omega)
 have ea:its.toArray++its2.toArray=(its++its2).toArray:=by simp
 rw[ea]
 exact⟨.ref _,_,I.lnew (t':=s.toks) (r.append r2) (by rw[YJ];omega),rfl,q _ I.fresh⟩
end
end L2
namespace Att
open PySem PySem.W PySem.Calls PyProof.Rows
theorem ZfZ {P:Params}{h:Heap}:∀(ns:List Int) (vs:List Value),WellAll P h vs (ns.map WData.int)->IntsAre vs ns:=by
 intro ns
 induction ns with
 |nil =>
  intro vs w
  rw[List.map_nil]at w
  cases w
  exact .nil
 |cons n ns ih =>
  intro vs w
  rw[YS]at w
  cases w with
  |cons a b =>
   cases a
   exact .cons _ _ (ih _ b)
theorem ZkQ {l:OpenLaw}{n:Nat} (hn:l.most=some n) {P:Params}{h:Heap}{args:List WData}{vals:List Value}
  (hpre:l.row.toRowW.claim.pre args=true) (hwl:WellAll P h vals args) :
  ∃a vs ns,vals=[Value.ref a]/\args=[WData.list (ns.map WData.int)]/\h.get? a=some {cls:=.type "list",data:=.seq vs.toArray}/\IntsAre vs ns/\ns.length<=n:=by
 have hsh:WShape.hasAll [] args [.list .int]=true:=(pre_splitW hpre).1
 have hc:l.pre.holds [] {args:=args}=true:=(pre_splitW hpre).2
 obtain⟨d,r,rfl,h1,h2⟩:=hasAllW_cons hsh
 obtain rfl:=hasAllW_nil h2
 obtain⟨xs,rfl,h3⟩:=hasW_list h1
 obtain⟨ns,rfl⟩:=items_int h3
 have hlen:ns.length<=n:=by
  unfold OpenLaw.pre at hc
  have h4:(WTm.not (.lt (.lit (.int (n:Int))) (.len (.arg 0)))).holds [] {args:=[.list (ns.map .int)]}=true:=by
   have h4:=(holds_andW hc).1
   rw[hn]at h4
   exact h4
  have h5:=condW_of h4 (w_not (w_lt w_lit (w_len_list (w_arg rfl))))
  rw[Yc]at h5
  refine Nat.le_of_not_lt λq=>?_
  have q':(n:Int)<((ns.length:Nat):Int):=by omega
  first
   |(rw[Yo q']at h5;exact absurd h5 (by decide))
   |(simp at h5;omega)
 cases hwl with
 |cons w1 w2 =>
  cases w2
  cases w1 with
  |list ho hall=>exact⟨_,_,ns,rfl,rfl,ho,ZfZ ns _ hall,hlen⟩
theorem ZkR (l:OpenLaw) (args:List WData):l.row.toRowW.claim.post args (.bool true) args=true :=
 postW_of (r:=l.row.toRowW) (X:=(true==true))
  (show WShape.has [] (.bool true) .bool=true by first|rfl|decide|simp[WShape.has,WShape.arms,WShape.armsAll])
  (show(WTm.eq .res (.lit (.bool true))).value [] {args:=args,res:=some (.bool true),after:=args}=some (.bool (true==true))from w_eq_bool (w_res rfl) w_lit) rfl
theorem Zix {l:OpenLaw}{n:Nat}{q:Program}{loose:List Str}{XP:(Str->Option Value)->Heap->Prop}{YP:World->Heap->Prop}{d:DefRec}
  (hn:l.most=some n) (hdf:d.params.defaults=[])
  (call:∀(w:World) (s₀ s₁:Shared) (mg mb:Str->Option Value) (fa:Addr) (o:Obj) (pm cd doc:Value) (a:Addr) (vs:List Value) (ns:List Int),
   Ground q loose [] XP w s₀ mg mb s₁.heap->YP w s₁.heap ->
   s₁.heap.get? fa=some o->o.data=.func (docDef d.name d.params d.body d.scope pm cd doc)->s₁.heap.CodeRec cd d.name->mg d.name=some (.ref fa) ->
   s₁.heap.get? a=some {cls:=.type "list",data:=.seq vs.toArray}->IntsAre vs ns->ns.length<=n->s₁.gens=#[] ->
   codeAny (model l.prog w) callerA (.call (.ref fa) ⟨[.ref a],[]⟩) (λr s'=>r=.ok (.ret (.bool true))/\OldK s₁.heap s'.heap/\s'.os=s₁.os/\AllBare s'.gens) s₁) :
  WalkO q loose XP YP l.row.toRowW d [] (λf vs=>PySem.call f vs):=by
 intro w s₀ s₁ mg mb G Y fa o pm cd doc dV kV ho hd hcd hD hmg hg args vals as hpre hlay hrd hwl hlo
 obtain rfl:dV=.none:=Dflts.none hD hdf
 obtain rfl:kV=.none:=Dflts.noKw hD
 obtain⟨a,vs,ns,rfl,rfl,hobj,hints,hlen⟩:=ZkQ hn hpre hwl
 refine enter_call (codeAny_mono (call w s₀ s₁ mg mb fa o pm cd doc a vs ns G Y ho (fd_plain hd) hcd hmg hobj hints hlen hg) λr s' hq=>?_)
 obtain⟨rfl,h2,h3,h4⟩:=hq
 exact⟨.inl ⟨.bool true,.bool true,[],rfl,λ_=>rfl,.bool true,ZkR l _,λ_=>⟨List.Pairwise.nil,λ_ hm=>(nomatch hm)⟩⟩,h2,h3,h4⟩
end Att
namespace L2
open PySem PySem.Spec PyProof.Rows
theorem Zfq:∀{vs:List Value}{ns:List Int},IntsAre vs ns->Vals (ns.map V.int) vs
 |_,_,.nil=>.nil
 |_,_,.cons n t h=>.cons ⟨t,rfl⟩ (Zfq h)
noncomputable def Only (H:Hp):Prop:=∀b,H b=none\/∃o xs,H b=some (.frz o (.lst xs))
theorem Zl4 {P:Program}{w:World}{K:PySem.W.Frag}{mg mb:Str->Option Value}{CX:CXT}{k:Nat}{fa a:Addr}{fd:FuncData}{x:Str}{sp:Sp}{s₁:Shared}{vs:List Value}{ns:List Int}
  (KX:K.In s₁.heap) (hns:s₁.heap.Ns mainGlobals mg) (hb:s₁.heap.Ns builtinsNs mb) (hbb:∀x:Str,x≠"__name__"->mb x=bootBuiltins x) (hlim:s₁.heap.NoLimit) (hg:s₁.gens=#[])
  (ha:s₁.heap.get? a=some {cls:=.type "list",data:=.seq vs.toArray}) (hi:IntsAre vs ns) (hl:ns.length<=sizeLine) (hr:Room k callerA)
  (F:∀base:Heap,K.In base->base.Ns mainGlobals mg->FnOk P w K mg base CX k fa fd [x] sp) (hbind:∀(s:Shared) (u:Value),BindsTo s fd ⟨[u],[]⟩ [(x,u)])
  (hsp:∀H:Hp,Only H->SqL K H a (ns.map V.int)->sp [.ref a] H (λv _=>v=.bl true) λ_ _ _=>False)
  (hCX:∀H e s',CX [] H s₁ (λ_ _ _=>False) e s'->False) :
  codeAny (model P w) callerA (.call (.ref fa) ⟨[.ref a],[]⟩) (λr s'=>r=.ok (.ret (.bool true))/\OldK s₁.heap s'.heap/\s'.os=s₁.os/\AllBare s'.gens) s₁:=by
 have rv:=Zfq hi
 have lenV:=hi.length
 -- from an abstract heap in which nothing but the script may be tracked
 have core:∀H:Hp,Only H->SqL K H a (ns.map V.int)->HOk P w H s₁.heap->(∀b,H b≠none->b=a)->(H a≠none->K.lookup a=none) ->
   codeAny (model P w) callerA (.call (.ref fa) ⟨[.ref a],[]⟩) (λr s'=>r=.ok (.ret (.bool true))/\OldK s₁.heap s'.heap/\s'.os=s₁.os/\AllBare s'.gens) s₁:=by
  intro H hO hS hok hA hK
  have base_of:∀{b:Addr}{o:Obj},s₁.heap.get? b=some o->H b=none->(ZhD s₁.heap H).get? b=some o:=λe n=>ZlN e n
  have noA:∀{b:Addr}{o:Obj}{es:Array DictEntry}{ep:Nat},s₁.heap.get? b=some o->o.data=.dict es ep->H b=none:=λ{b o es ep} e d=>by
   cases q:H b with
   |none=>rfl
   |some u =>
    have e':b=a:=hA b (by rw[q];simp)
    subst e'
    rw[ha]at e;cases e
    have d':Data.seq vs.toArray _=Data.dict es ep:=d
    cases d'
  have nsK:∀{b:Addr}{m:Str->Option Value},s₁.heap.Ns b m->(ZhD s₁.heap H).Ns b m:=λ{b m} ⟨o,es,ep,e,d,r⟩=>⟨o,es,ep,base_of e (noA e d),d,r⟩
  have hKb:K.In (ZhD s₁.heap H):=λb o e=>base_of (KX b o e) (by
   cases q:H b with
   |none=>rfl
   |some u =>
    have e':b=a:=hA b (by rw[q];simp)
    subst e'
    rw[hK (by rw[q];simp)]at e;cases e)
  have hM:Mod K mg (ZhD s₁.heap H):=⟨hKb,nsK hns,⟨mb,nsK hb,hbb⟩,let ⟨mc,h1,h2⟩:=hlim;⟨mc,nsK h1,h2⟩⟩
  have e0:Env0 P w K mg (ZhD s₁.heap H) callerA [] s₁ H:=⟨rfl,hM,λb o e=>Znx e,Nat.le_of_eq (ZkG _ _),trivial,λb hb=>absurd (show b∈([]:List Addr)from hb) (by simp),hok,.of_eq hg⟩
  refine codeAny_mono ((F _ hKb (nsK hns)).run callerA [] s₁ H ⟨[.ref a],[]⟩ [.ref a] [.ref a] _ _ hr e0 (hbind s₁ (.ref a)) (.cons rfl .nil) (hsp H hO hS)) λr s' h=>?_
  cases r with
  |error e=>exact(hCX H e s' h).elim
  |ok fl =>
   cases fl with
   |next=>exact False.elim h
   |brk=>exact False.elim h
   |cont=>exact False.elim h
   |ret u =>
    obtain⟨v,H',os,bare,un,hok',r',q⟩:=h
    have q':v=.bl true:=q
    subst q'
    obtain rfl:u=Value.bool true:=r'
    refine⟨rfl,OldK.of_keep λb o e=>?_,os,bare⟩
    cases q:H b with
    |none=>exact un.keep b o e q (by intro z;exact absurd (show b∈([]:List Addr)from z) (by simp)) (by simp)
    |some u =>
     rcases hO b with z|⟨ob,xs,z⟩
     ·rw[q]at z;cases z
     ·have z2:=un.frzs b ob _ z
      obtain⟨e1,_⟩:=hok b _ z
      obtain⟨e2,_⟩:=hok' b _ z2
      rw[e]at e1;cases e1
      exact e2
 cases hk:K.lookup a with
 |some o =>
  -- the script is one of the module's own objects
  have e:=KX a o hk
  rw[ha]at e
  cases e
  refine core (λ_=>none) (λ_=>.inl rfl) (.inr ⟨_,vs.toArray,_,hk,rfl,rfl,rfl,by rw[Ym,lenV];exact hl,by simpa using rv⟩) (λb u z=>by have z':(none:Option HO)=some u:=z;cases z') (λb z=>absurd rfl z) λz=>absurd rfl z
 |none =>
  refine core (λb=>if b=a then some (.frz {cls:=.type "list",data:=.seq vs.toArray} (.lst (ns.map V.int)))else none) (λb=>?_) (.inl (.inr ⟨{cls:=.type "list",data:=.seq vs.toArray},Yd rfl⟩)) (λb u z=>?_) (λb z=>?_) λ_=>hk
  ·by_cases hb:b=a
   ·exact .inr ⟨_,_,Yd hb⟩
   ·exact .inl (Ye hb)
  ·by_cases hb:b=a
   ·have z':=(Yd hb).symm.trans z
    cases z'
    subst hb
    exact⟨ha,by rw[Yc];exact hl,vs,_,rv,ha⟩
   ·have z':=(Ye hb).symm.trans z
    cases z'
  ·by_cases hb:b=a
   ·exact hb
   ·exact absurd (Ye hb) z
theorem ZnC {l:PySem.W.OpenLaw}{n k:Nat}{q:Program}{loose:List Str}{XP:(Str->Option Value)->Heap->Prop}{YP:World->Heap->Prop}{d:DefRec}{K:Params->PySem.W.Frag}{CX:World->CXT}{sp:World->Sp}{x:Str}
  (hn:l.most=some n) (hn2:n<=sizeLine) (hdf:d.params.defaults=[]) (hr:Room k callerA)
  (hY:∀(w:World) (h:Heap),YP w h->(K w.params).In h)
  (F:∀(w:World) (mg:Str->Option Value) (fa:Addr) (h:Heap),(K w.params).In h->h.Ns mainGlobals mg->mg d.name=some (.ref fa) ->
   ∃fd:FuncData,(∀(s:Shared) (u:Value),BindsTo s fd ⟨[u],[]⟩ [(x,u)]) /\
    ∀base:Heap,(K w.params).In base->base.Ns mainGlobals mg->FnOk l.prog w (K w.params) mg base (CX w) k fa fd [x] (sp w))
  (hsp:∀(w:World) (H:Hp) (a:Addr) (ns:List Int),ns.length<=n->Only H->SqL (K w.params) H a (ns.map V.int)->sp w [.ref a] H (λv _=>v=.bl true) λ_ _ _=>False)
  (hCX:∀(w:World) (H:Hp) (s:Shared) (e:Value) (s':Shared),CX w [] H s (λ_ _ _=>False) e s'->False) :
  PySem.W.WalkO q loose XP YP l.row.toRowW d [] (λf vs=>PySem.call f vs):=by
 refine Att.Zix hn hdf λw s₀ s₁ mg mb fa o pm cd doc a vs ns G Y ho hd hcd hmg hobj hints hlen hg=>?_
 have KX:=hY w _ Y
 obtain⟨fd,hb,hF⟩:=F w mg fa _ KX G.T.g hmg
 exact Zl4 KX G.T.g G.T.b G.T.builtins G.T.nolimit hg hobj hints (Yh hlen hn2) hr hF hb (λH hO hS=>hsp w H a ns hlen hO hS) λH e s'=>hCX w H s₁ e s'
noncomputable def defArgs (s:Stmt):Arguments:=match s with
 |.FunctionDef _ a _ _ _ _ _ _ _ _=>a
 |_=>{posonlyargs:=[],args:=[],vararg:=none,kwonlyargs:=[],kw_defaults:=[],kwarg:=none,defaults:=[]}
noncomputable def defBody (s:Stmt):List Stmt:=match s with
 |.FunctionDef _ _ b _ _ _ _ _ _ _=>b
 |_=>[]
noncomputable def defScope (s:Stmt):Scope:=match s with
 |.FunctionDef _ _ _ _ _ _ sc _ _ _=>sc
 |_=>{kind:=.function,names:=[],isGenerator:=false,isCoroutine:=false}
noncomputable abbrev E0:XK:=λ_ _ _=>False
structure Fun (K:PySem.W.Frag) (x qual:Str) (st:Stmt) (f:Addr) (fd:FuncData):Prop where
 ex:∃(oc:Value) (od:Option Addr) (kV doc pm:Value) (an:Option Addr) (cdv ct:Value) (osl:Array (Option Value)),
  fd=PySem.W.fnOf x qual (defArgs st) (defBody st) (defScope st) .none kV doc pm an cdv ct/\K.lookup f=some ⟨oc,od,.func fd,osl⟩/\PySem.W.codeIn K cdv qual=true
 kp:PySem.W.keepIn K (.ref f)=true
section
variable {P:Program}{w:World}{K:PySem.W.Frag}{mg:Str->Option Value}{base:Heap}
theorem Fun.binds {x qual:Str}{st:Stmt}{f:Addr}{fd:FuncData}{ps:List Str} (F:Fun K x qual st f fd)
  (h:∀(kV doc pm:Value) (an:Option Addr) (cdv ct:Value) (us:List Value),us.length=ps.length->bindArgs (PySem.W.fnOf x qual (defArgs st) (defBody st) (defScope st) .none kV doc pm an cdv ct) ⟨us,[]⟩=pure (ps.zip us)):Binds K fd ps []:=by
 obtain⟨oc,od,kV,doc,pm,an,cdv,ct,osl,rfl,lk,hcd⟩:=F.ex
 exact .all (h kV doc pm an cdv ct)
theorem ZW {x qual:Str}{st:Stmt}{f:Addr}{oc:Value}{od an:Option Addr}{osl:Array (Option Value)}{kV doc pm cdv ct:Value} (l:K.lookup f=some ⟨oc,od,.func (PySem.W.fnOf x qual (defArgs st) (defBody st) (defScope st) .none kV doc pm an cdv ct),osl⟩)
  (c:PySem.W.codeIn K cdv qual=true) (k:PySem.W.keepIn K (.ref f)=true):Fun K x qual st f (PySem.W.fnOf x qual (defArgs st) (defBody st) (defScope st) .none kV doc pm an cdv ct):=⟨⟨oc,od,kV,doc,pm,an,cdv,ct,osl,rfl,l,c⟩,k⟩
end
section
variable {X:Cx}
theorem pv (i:Nat) {x:Str}{pos:Pos} (hN:X.N[i]?=some x:=by rfl) (hv:Vis X.env.scope x:=by first|exact Or.inl rfl|exact Or.inr (Or.inl rfl)|exact Or.inr (Or.inr rfl)) (hd:(x==("__debug__":Str))=false:=by decide)
  (hcd:(x==("__classdict__":Str))=false:=by decide):PE X (.Name x pos) (tVar i):=pe_var hN hv hd hcd
end
theorem ZE {c A B:Prop} [Decidable c] (h1:c->A) (h2:¬ c->B):if c then A else B:=by
 by_cases h:c
 ·rw[Yd h]
  exact h1 h
 ·rw[Ye h]
  exact h2 h
noncomputable def Zf (H H':Hp):Prop:=∀b o,H b=some o->H' b=some o
theorem Zf.refl (H:Hp):Zf H H:=λ_ _ h=>h
theorem Zf.trans {H H1 H2:Hp} (a:Zf H H1) (b:Zf H1 H2):Zf H H2:=λc o h=>b c o (a c o h)
theorem Zf.free {H H':Hp} (e:Zf H H') {l:Addr} (h:H' l=Option.none):H l=Option.none:=by
 cases q:H l with
 |none=>rfl
 |some o =>
  rw[e l o q]at h
  cases h
theorem Zf.seq {K:PySem.W.Frag}{H H':Hp}{a:Addr}{xs:List V} (e:Zf H H') (h:SqL K H a xs):SqL K H' a xs:=by
 rcases h with(h|⟨o,h⟩)|h
 ·exact .inl (.inl (e _ _ h))
 ·exact .inl (.inr ⟨o,e _ _ h⟩)
 ·exact .inr h
theorem Zex {env:Env}:∀(names:List (Str×NameKind)) (cs0:List (Str×Addr)),(∀y∈names,y.2=.free->∃c,env.cells.lookup y.1=some c) ->
  ∃cl,(forIn names cs0 (λ(x:Str×NameKind) r=>(do
   match x with
   |(name,kind)=>if (kind==NameKind.free)=true then do let a <-cellOf env name;pure (ForInStep.yield ((name,a)::r))else pure (ForInStep.yield r)):_->_->Sem (ForInStep (List (Str×Addr)))))=pure cl /\
   (∀p∈cl,p∈cs0\/env.cells.lookup p.1=some p.2)/\(∀p∈cs0,p∈cl)/\(∀y∈names,y.2=.free->∃c,(y.1,c)∈cl)
 |[],cs0,_=>⟨cs0,rfl,λp h=>.inl h,λp h=>h,λy h=>by cases h⟩
 |(n,k)::r,cs0,h=>by
  by_cases hk:k=.free
  ·subst hk
   obtain⟨c,hc⟩:=h (n,.free) (.head _) rfl
   obtain⟨cl,e,h1,h2,h3⟩:=Zex r ((n,c)::cs0) λy hy=>h y (.tail _ hy)
   refine⟨cl,?_,λp hp=>?_,λp hp=>h2 p (.tail _ hp),λy hy hf=>?_⟩
   ·rw[List.forIn_cons]
    have e1:cellOf env n=pure c:=by unfold cellOf;rw[hc]
    simp only[beq_self_eq_true,if_true,e1,pure_bind]
    exact e
   ·rcases h1 p hp with q|q
    ·rcases Yk.mp q with q|q
     ·subst q;exact .inr hc
     ·exact .inl q
    ·exact .inr q
   ·rcases Yk.mp hy with q|q
    ·subst q;exact⟨c,h2 _ (.head _)⟩
    ·exact h3 y q hf
  ·obtain⟨cl,e,h1,h2,h3⟩:=Zex r cs0 λy hy=>h y (.tail _ hy)
   refine⟨cl,?_,h1,h2,λy hy hf=>?_⟩
   ·rw[List.forIn_cons]
    have e1:(k==NameKind.free)=false:=by cases k<;>first|rfl|exact absurd rfl hk
    simp only[e1,Bool.false_eq_true,if_false,pure_bind]
    exact e
   ·rcases Yk.mp hy with q|q
    ·subst q;exact absurd hf hk
    ·exact h3 y q hf
theorem ZaM {env:Env}:∀{names:List (Str×NameKind)}{x:Str}{k:NameKind},(names.map λ(n,k)=>if (k==NameKind.free&&env.scope.kind==.function&&env.kindOf n==some .cell)then (n,NameKind.cell)else (n,k)).lookup x=some k ->
  ∃k',names.lookup x=some k'/\(k=k'\/(k'=.free/\k=.cell))
 |[],_,_,h=>by simp at h
 |(n,k0)::r,x,k,h=>by
  by_cases hx:x=n
  ·subst hx
   refine⟨k0,by simp,?_⟩
   simp only[YS]at h
   split at h
   ·rename_i hc
    simp only[Bool.and_eq_true,beq_iff_eq]at hc
    simp only[List.lookup_cons_self,Option.some.injEq]at h
    exact .inr ⟨hc.1.1,h.symm⟩
   ·simp only[List.lookup_cons_self,Option.some.injEq]at h
    exact .inl h.symm
  ·have hb:(x==n)=false:=by simpa using hx
   simp only[YS]at h
   have e2:∀k1,((n,k1)::r).lookup x=r.lookup x:=λk1=>by simp[List.lookup_cons,hb]
   split at h<;>(simp only[List.lookup_cons,hb]at h;obtain⟨k',h1,h2⟩:=ZaM h;exact⟨k',by rw[e2];exact h1,h2⟩)
noncomputable def Zl5 (X:Cx) (Nc:List Str) (scope:Scope) (cl:List (Str×Addr)) (C:Addr) (s2:Shared) (H2:Hp) (fp:List Addr):Cx where
 prog:=X.prog
 w:=X.w
 K:=X.K
 mg:=X.mg
 base:=X.base
 A:=X.A
 N:=Nc
 s₀:=s2
 H₀:=H2
 env:=compEnvC scope cl C X.env
 outer:=X.stack
 stack:=X.stack
 ex:=fp
 fn:=λ_=>false
 calm:=X.calm
 pn:=[]
 xe:=λ_ _=>False
noncomputable def ZcX (js:List (Option Nat)) (σ:St):St:=js.map λj=>match j with
 |none=>none
 |some i=>(σ[i]?).join
noncomputable def Za6 (N Nc:List Str) (scope:Scope):List (Option Nat)->Nat->Bool
 |[],i=>i==Nc.length
 |none::r,i=>Za6 N Nc scope r (i+1)
 |some j::r,i=>(match Nc[i]?,N[j]? with
  |some x,some y=>x==y&&scope.names.lookup x==some .free
  |_,_=>false)&&Za6 N Nc scope r (i+1)
theorem Zey {N Nc:List Str}{scope:Scope}:∀{js:List (Option Nat)}{i:Nat},Za6 N Nc scope js i=true->i+js.length=Nc.length
 |[],i,h=>by simpa[Za6]using h
 |none::r,i,h=>by
  have:=Zey (js:=r) (i:=i+1) (by simpa[Za6]using h)
  simp only[YN];omega
 |some j::r,i,h=>by
  simp only[Za6,Bool.and_eq_true]at h
  have:=Zey (js:=r) (i:=i+1) h.2
  simp only[YN];omega
theorem Zfr {N Nc:List Str}{scope:Scope}:∀{js:List (Option Nat)}{i k j:Nat},Za6 N Nc scope js i=true->js[k]?=some (some j)->∃x,Nc[i+k]?=some x/\N[j]?=some x/\scope.names.lookup x=some .free
 |[],i,k,j,h,e=>by simp at e
 |none::r,i,0,j,h,e=>by simp at e
 |none::r,i,k+1,j,h,e=>by
  obtain⟨x,h1,h2,h3⟩:=Zfr (js:=r) (i:=i+1) (k:=k) (j:=j) (by simpa[Za6]using h) (by simpa using e)
  exact⟨x,by rw[<-h1];congr 1;omega,h2,h3⟩
 |some j0::r,i,0,j,h,e=>by
  simp only[Za6,Bool.and_eq_true]at h
  simp only[List.getElem?_cons_zero,Option.some.injEq]at e
  subst e
  cases e1:Nc[i]? with
  |none=>rw[e1]at h;simp at h
  |some x =>
   cases e2:N[j0]? with
   |none=>rw[e1,e2]at h;simp at h
   |some y =>
    rw[e1,e2]at h
    simp only[Bool.and_eq_true,beq_iff_eq]at h
    exact⟨x,by simpa using e1,by rw[h.1.1],h.1.2⟩
 |some j0::r,i,k+1,j,h,e=>by
  simp only[Za6,Bool.and_eq_true]at h
  obtain⟨x,h1,h2,h3⟩:=Zfr (js:=r) (i:=i+1) (k:=k) (j:=j) h.2 (by simpa using e)
  exact⟨x,by rw[<-h1];congr 1;omega,h2,h3⟩
section
variable {X:Cx}
theorem lookup_mem {names:List (Str×NameKind)}{x:Str}{k:NameKind} (h:names.lookup x=some k):(x,k)∈names:=PySem.mem_of_lookup h
theorem ZdA {prog:Program}{w:World}{A:Around}{R:Result->Shared->Prop}{s:Shared}{elt target iter:Expr}{ifs:List Expr}{scope:Scope}{pos:Pos}{it acc:Value}{env:Env} (I:Nat->Shared->Prop)
  (turn:∀n s,I n s->wpAny (model prog w) A (pyNext it) (λr s₁=>match r with
   |none=>R (.ok .next) s₁
   |some v=>wpAny (model prog w) A (letOwnedTupleGo target it v) (λ_ s₁=>wpAny (model prog w) A (assign target env v) (λ_ s₂ =>
     wpAny (model prog w) A (forIn ifs true λc r=>if r=true then do let ok <-isTrue c env (eval c env);pure (ForInStep.yield ok)else pure (ForInStep.yield r)) (λok s₃ =>
      if ok=true then wpAny (model prog w) A (eval elt env) (λx s₄ =>
       wpAny (model prog w) A (call (.builtin "list.append") [acc,x]) (λ_ s₅=>∃m,m<n/\I m s₅) (λ_ _=>False) s₄) (λ_ _=>False) s₃
      else ∃m,m<n/\I m s₃) (λ_ _=>False) s₂) (λ_ _=>False) s₁) (λ_ _=>False) s₁) (λ_ _=>False) s)
  (n:Nat) (h:I n s) :
  codeAny (model prog w) A (.compLoop (.ListComp elt [⟨target,iter,ifs,0⟩] scope pos) 0 it acc env) R s:=by
 refine codeAny_loop rfl I (λn s hI=>?_) n h
 show wpAny _ A ((compTurn (.ListComp elt [⟨target,iter,ifs,0⟩] scope pos) 0 it acc env).onRaise (λx=>do noteFrame x env;theTreesLotGoes x)) _ _ s
 refine wpAny_noted ?_
 rw[compTurn_list]
 refine Yf (wpAny_standAt (Yf (YR (turn n s hI) (λr s₁ h₁=>?_) λ_ _ h'=>h'.elim)))
 cases r with
 |none=>exact Yq h₁
 |some v =>
  refine Yf (YR h₁ (λ_ s₁' h₁=>?_) λ_ _ h'=>h'.elim)
  refine Yf (YR h₁ (λ_ s₂ h₂=>Yf (YR h₂ (λok s₃ h₃=>?_) λ_ _ h'=>h'.elim)) λ_ _ h'=>h'.elim)
  cases ok with
  |false=>exact Yq ⟨rfl,h₃⟩
  |true =>
   exact Yf (Yf (YR h₃ (λx s₄ h₄=>Yf (YR h₄ (λ_ s₅ h₅=>Yq (Yq ⟨rfl,h₅⟩)) λ_ _ h'=>h'.elim)) λ_ _ h'=>h'.elim))
noncomputable def ZkS (X:Cx) (ifs:List Expr) (t:TT):Prop :=
 ∀(pins:List (Addr×Obj)) (s:Shared) (σ:St) (H:Hp) (Q:Bool->Hp->Prop),Inv X pins σ H s->t σ H Q ->
  wpAny (model X.prog X.w) X.A (forIn ifs true λc r=>if r=true then do let ok <-isTrue c X.env (eval c X.env);pure (ForInStep.yield ok)else pure (ForInStep.yield r)) (TP X pins σ Q) X.xe s
noncomputable def tYes:TT:=λ_ H Q=>Q true H
theorem Z7:ZkS X [] tYes:=λpins s σ H Q I h=>wpAny_tests_nil ⟨H,I,h⟩
theorem ZbR {c:Expr}{t:TT} (h:PT X c t):ZkS X [c] t:=λpins s σ H Q I hq=>wpAny_tests_one (h pins s σ H Q I hq)
noncomputable def Zcx (L:List Nat) (σ σ':St):Prop:=σ'.length=σ.length/\∀k,k∉L->σ'[k]?=σ[k]?
noncomputable def Zhn (g:TG) (L:List Nat):Prop:=∀v σ H (Q Q':St->Hp->Prop),(∀σ' H',Zcx L σ σ'->Q σ' H'->Q' σ' H')->g v σ H Q->g v σ H Q'
noncomputable def ZhM (g:TGs) (L:List Nat):Prop:=∀v σ H (Q Q':St->Hp->Prop),(∀σ' H',Zcx L σ σ'->Q σ' H'->Q' σ' H')->g v σ H Q->g v σ H Q'
theorem Zcx.refl {L:List Nat}{σ:St}:Zcx L σ σ:=⟨rfl,λ_ _=>rfl⟩
theorem Zcx.trans {L L':List Nat}{a b c:St} (x:Zcx L a b) (y:Zcx L' b c):Zcx (L++L') a c :=
 ⟨y.1.trans x.1,λk hk=>(y.2 k λz=>hk (Yy _ z)).trans (x.2 k λz=>hk (YF _ z))⟩
theorem Zs {i:Nat}:Zhn (Zgd i) [i]:=λv σ H Q Q' hq h=>hq _ _ ⟨by simp,λk hk=>by
 rw[List.getElem?_set_ne]
 intro z;subst z;exact hk (by simp)⟩ h
theorem ZcL:ZhM gNil []:=λv σ H Q Q' hq h=>⟨h.1,hq _ _ Zcx.refl h.2⟩
theorem ZT {t:TG}{u:TGs}{L L':List Nat} (h1:Zhn t L) (h2:ZhM u L'):ZhM (ZlS t u) (L++L'):=λv σ H Q Q' hq h=>by
 obtain⟨x,r,e,h⟩:=h
 exact⟨x,r,e,h1 _ _ _ _ _ (fun σ' H' k1 q=>h2 _ _ _ _ _ (fun σ2 H2 k2 q2=>hq _ _ (k1.trans k2) q2) q) h⟩
theorem ZcM {K:PySem.W.Frag}{n:Nat}{t:TGs}{L:List Nat} (h:ZhM t L):Zhn (gTup K n t) L:=λv σ H Q Q' hq q=>by
 obtain⟨a,xs,e1,e2,e3,q⟩:=q
 exact⟨a,xs,e1,e2,e3,h _ _ _ _ _ hq q⟩
noncomputable def Zkm (wi:TI) (g:TG) (tt:TT) (te:TE) (js:List (Option Nat)):TE:=fun σ H Q=>wi σ H λJ H1=>∃W:Nat->Nat->List V->Hp->Prop,(∃m,W 0 m [] H1)/\∀i m acc H,W i m acc H ->
 (J.stop i H/\acc.length<=sizeLine/\∀p,H p=none->Q (.ref p) (upd H p (.lst acc))) \/
 (J.go i H/\acc.length<sizeLine/\∀x H',J.yld i H x H'->g x (ZcX js σ) H' fun σ2 H2=>tt σ2 H2 λb H3=>if b=true then te σ2 H3 λv H4=>∃m',m'<m/\W (i+1) m' (acc++[v]) H4 else ∃m',m'<m/\W (i+1) m' acc H3)
theorem ZhN {C:Addr}{h:Heap}:Heap.SameBut C h h:=by
 first|exact Heap.SameBut.refl|exact⟨rfl,λ_ _=>rfl⟩
end
end L2
namespace L2
open PySem PySem.Spec PyProof.Rows PySem.W PySem.Builtin.ObjectAttr PySem.Builtin.Getset_descriptor
noncomputable def Ziy (x C:Addr) (h:Heap):Prop:=∃o,h.get? x=some o/\o.cls=.ref C
structure ExK (K:Frag) (C:Addr):Prop where
 dk:hasDictIn K C=true
 ga:findIn K (.ref C) "__getattribute__"=some (some (.builtin "BaseException.__getattribute__"))
 gt:findIn K (.ref C) "__getattr__"=some none
 cl:findIn K (.ref C) "__class__"=some (some (.builtin "object.__class__"))
 gg:specialIn K (.builtin "object.__class__") "__get__"=some (some (.builtin "getset_descriptor.__get__"))
 tk:takesIn K (.builtin "object.__class__")=some true
 mo:mroIn K C (.type "object")=some true
 mb:mroIn K C (.type "BaseException")=some true
section
variable {K:Frag}{x C:Addr}
theorem Ziy.type {M:Model}{h:Heap} (I:Ziy x C h):Looks M h (typeOf (.ref x)) (.ref C):=by
 obtain⟨o,e,c⟩:=I
 exact c▸(Looks.ld e).andThen .now
theorem Zl6 {M:Model}{h:Heap} (X:K.In h) (Z:ExK K C):Looks M h (find (.ref x) (.ref C) "__class__") (.bind (.builtin "getset_descriptor.__get__") (.builtin "object.__class__")):=by
 have L3:=looks_takesIn (M:=M) X Z.tk
 exact(looks_findIn (M:=M) X Z.cl).andThen ((looks_specialIn X Z.gg).andThen
  ((show Looks M h (dataDescriptor? (some (.builtin "object.__class__")) (some (.builtin "getset_descriptor.__get__"))) (some (.builtin "getset_descriptor.__get__",.builtin "object.__class__"))from L3.andThen .now).andThen (Looks.tag .now)))
theorem ZnD {prog:Program}{w:World}{A:Around}{R:Result->Shared->Prop}{s:Shared}{tp:Value} (X:K.In s.heap) (I:Ziy x C s.heap) (Z:ExK K C) (hR:R (.ok (.ret (.ref C))) s) :
  codeAny (model prog w) A (.call (.builtin "getset_descriptor.__get__") ⟨[.builtin "object.__class__",.ref x,tp],[]⟩) R s:=by
 obtain⟨hp,gn,dw,tk,os⟩:=s
 have L0:=I.type (M:=model prog w)
 have L1:=looks_mroIn (M:=model prog w) X Z.mo
 refine codeAny_call_builtin KF.slot_gs.plain KF.entry_gs (KF.slot_gs.check _ _ _ _ _ _ _ _ KF.type_class (KF.args_gs _ _ _) ?_)
 unfold Builtin.«getset_descriptor.__get__» descrGet;rw[dga_obj];refine Yf (Yq ?_)
 unfold descrGetter descrCheckInstance descrNameAndClass isInstance;simp only[KF.owner_class]
 repeat lk
 refine⟨Code.quiet_builtin _ (by decide +kernel),codeAny_builtin KF.entry_class ?_⟩;unfold Builtin.«object.__class__» shownTypeOf
 repeat lk
 exact hR
theorem ZkT {prog:Program}{w:World}{A:Around}{E:Value->Shared->Prop}{s:Shared}{tk:Tok}{Q:Fin->Shared->Prop} (X:K.In s.heap) (I:Ziy x C s.heap) (Z:ExK K C) (hQ:Q (.done (.ret (.ref C))) s) :
  wpAny (model prog w) A (Builtin.«object.__getattribute__» ⟨[.ref x,.str "__class__" tk],[]⟩) Q E s:=by
 obtain⟨hp,gn,dw,t,os⟩:=s
 have L0:=I.type (M:=model prog w)
 have L2:=Zl6 (M:=model prog w) (x:=x) X Z
 unfold Builtin.«object.__getattribute__»
 refine Yf (Yq (Yf (Yq (Yf (L0.at (Yf (L2.at ?_)))))))
 show wpAny _ _ (holding _ (call _ _) >>= ret) _ _ _
 exact Yf (wpAny_holding (wpAny_call (ZnD (s:=⟨hp,gn,dw,t,os⟩) X I Z (Yq hQ))))
theorem ZkU {M:Model}{A:Around}{E:Value->Shared->Prop}{s:Shared}{nameV:Value}{Q:Unit->Shared->Prop} (X:K.In s.heap) (I:Ziy x C s.heap) (Z:ExK K C) (hq:Q () s) :
  wpAny M A (checkBuiltinCall "BaseException.__getattribute__" ⟨[.ref x,nameV],[]⟩) Q E s:=by
 obtain⟨hp,gn,dw,t,os⟩:=s
 have hk:builtinKind "BaseException.__getattribute__"=some .slot:=by decide +kernel
 have hsplit:splitId "BaseException.__getattribute__"=some ("BaseException","__getattribute__"):=by decide +kernel
 have L0:=I.type (M:=M)
 have L1:=looks_mroIn (M:=M) X Z.mb
 have ha:=F.args_bexc_ga (.ref x) nameV
 simp only[checkBuiltinCall,hk,hsplit]
 refine Yf ?_
 unfold isInstance
 refine Yf (L0.at (L1.at ?_))
 repeat (first|assumption|wp_step)
theorem ZkV {prog:Program}{w:World}{A:Around}{E:Value->Shared->Prop}{s:Shared}{Q:Option Value->Shared->Prop} (X:K.In s.heap) (I:Ziy x C s.heap) (Z:ExK K C) (hQ:Q (some (.ref C)) {s with toks:=s.toks+1}) :
  wpAny (model prog w) A (getAttr? (.ref x) "__class__") Q E s:=by
 obtain⟨hp,gn,dw,tk,os⟩:=s
 have L0:=I.type (M:=model prog w)
 have L1:=looks_findIn (M:=model prog w) X Z.ga
 have L3:=looks_findIn (M:=model prog w) X Z.gt
 have hb:=(F.attrBase_ValueError.ga).bind (.ref x)
 unfold getAttr? getAttrBy? getAttrBy;refine Yf (wpAny_mkText (Yf (wpAny_attempt (wpAny_holding (Yf (L0.at (Yf (L1.at ?_))))))))
 show wpAny _ _ (getAttrByItsOwn _ _ _ _ _ _) _ _ _
 unfold getAttrByItsOwn hookBefore
 refine Yf (L3.at ?_)
 refine Yf (wpAny_attempt (wpAny_holding ?_))
 unfold callGetattribute
 show wpAny _ _ (boundAndCalled _ _ _) _ _ _
 unfold boundAndCalled
 rw[hb]
 refine Yf (Yq ?_)
 refine wpAny_call ?_
 refine codeAny_call_builtin F.attrBase_ValueError.ga.plain F.entry_bexc_ga (ZkU (s:=⟨hp,gn,dw,tk+1,os⟩) X I Z (ZkT (s:=⟨hp,gn,dw,tk+1,os⟩) X I Z ?_))
 exact handed_on rfl (Yq hQ)
theorem ZnE (Z:ExK K C):KitX K (.ref x) (.ref C) (Ziy x C) where
 ty:=λ_ _ _ I=>I.type
 it:=λ_ _ X _=>by
  obtain⟨cdD,hcD,_⟩:=any_some Z.dk
  unfold clsIn at hcD
  split at hcD
  ·rename_i c' d' cd' sl' ho
   intro A' Q' E' s' k q
   unfold isType loadHead;exact Yf (wpAny_loadPart (k _ _ (X _ _ ho)) (Yq q))
  ·cases hcD
 ne:=λh tp dd its n sl X htp=>by
  obtain⟨cdD,hcD,_⟩:=any_some Z.dk
  refine Bool.eq_false_iff.mpr λq=>?_
  have e:C=tp:=Value.ref.inj (beq_iff_eq.mp q);subst e
  unfold clsIn at hcD
  split at hcD
  ·rename_i c' d' cd' sl' ho
   have z:=(X _ _ ho).symm.trans htp;cases z
  ·cases hcD
 ca:=λX I k=>ZkV X I Z k
end
noncomputable def ExcO (e C:Addr):HO:=.ext (Ziy e C)
noncomputable def tyIs (K:Frag) (H:Hp) (x:V) (c:Value) (b:Bool):Prop :=
 (∃t,TyOf K H x t/\kitOne K t c=some b)\/∃e C,x=.ref e/\H e=some (ExcO e C)/\ExK K C/\kitOne K (.ref C) c=some b
noncomputable def cOf:V->Option Value
 |.ref a=>some (.ref a)
 |.ty n=>some (.type n)
 |_=>none
section
variable {X:Cx}
noncomputable def rIsi (K:Frag):List V->Hp->VK->Prop:=λxs H Q=>∃x v c b,xs=[x,v]/\cOf v=some c/\tyIs K H x c b/\Q (.bl b) H
theorem Zl7:ZaI X (.builtin "isinstance") (rIsi X.K):=by
 intro pins s σ H xs us Q I r h
 obtain⟨x,v,c,b,rfl,hc,ht,q⟩:=h
 obtain⟨u,u2,rfl,ru,ru2⟩:=r.two
 have e2:u2=c:=by
  cases v with
  |ref a=>have:=(show u2=Value.ref a from ru2);cases hc;exact this
  |ty n=>have:=(show u2=Value.type n from ru2);cases hc;exact this
  |_=>cases hc
 subst e2
 have fin:∀tk,EP X pins σ Q (.bool b) {s with toks:=tk}:=λtk=>⟨.bl b,H,I.tok tk,rfl,q⟩
 rcases ht with⟨t,ty,e⟩|⟨e,C,rfl,hH,Z,e1⟩
 ·exact ZkM I ru ty e fin
 ·cases(show u=Value.ref e from ru)
  obtain⟨p,_,_⟩:=(show Zas X.prog X.w H s.heap e (ExcO e C)from I.hok e _ hH)
  exact kia_one (ZnE Z) I.kIn p e1 (λz=>nomatch z) fin
end
end L2
namespace L2
open PySem PySem.Spec PyProof.Rows
structure Fly (P:Program) (w:World) (outer:List Env) (H:Hp) (s:Shared) (H':Hp) (B:Heap) (e:Addr) (C a0:Value) (s':Shared):Prop where
 os:s'.os=s.os
 bare:AllBare s'.gens
 fly:Heap.FlyingW B outer e C a0 s'.heap
 hok:HOk P w H' B
 keep:∀b o,s.heap.get? b=some o->H b=none->b∉frs outer->B.get? b=some o
 slot:∀b o,s.heap.get? b=some o->b∈frs outer->(∀vs,o.data≠.fields vs)->∃sl,s'.heap.get? b=some {o with slots:=sl}
 free:∀b o,s.heap.get? b=some o->H b=none->H' b=none
 there:∀b o,s.heap.get? b=some o->b∉frs outer->∃o',B.get? b=some o'
 tups:∀b xs,H b=some (.tup xs)->H' b=some (.tup xs)
 frzs:∀b o u,H b=some (.frz o u)->H' b=some (.frz o u)
 tbls:∀b ps,H b=some (.tbl ps)->∃more,H' b=some (.tbl (ps++more))
noncomputable def CXE (P:Program) (w:World):CXT:=λouter H s E ev s'=>∃e C a0 H' B,ev=.ref e/\Fly P w outer H s H' B e C a0 s'/\E C none H'
theorem ZA {P:Program}{w:World}{X:Cx}:Passes (CXE P w) X E0:=λ_ _ _ _ _ _ _ ⟨_,_,_,_,_,_,_,z⟩=>z.elim
section
variable {P:Program}{w:World}{K:PySem.W.Frag}{mg:Str->Option Value}{base:Heap}{N:List Str}{qual:Str}{scope:Scope}{f:Addr}{cd:Value}{A:Around}{outer:List Env}{s:Shared}{H:Hp}{E:XK}
theorem ZhO {pins:List (Addr×Obj)}{σ:St}{H1:Hp}{s1:Shared}{h':Heap}{e:Addr}{C:Value}{vs:List Value} (I:Inv (Zfp (CXE P w) P w K mg base N qual scope f cd A outer s H E) pins σ H1 s1)
  (hx:Heap.MadeExcOf s1.heap h' e C vs) (hE:E C none H1):(Zfp (CXE P w) P w K mg base N qual scope f cd A outer s H E).xe (.ref e) {s1 with heap:=h'}:=by
 let env:=envOfC qual scope s.heap.objs.size f cd
 let B:=PySem.W.hideAll s1.heap (frs (env::outer))
 have hin:∀en∈(env::outer),∀b,en.frame=some b->b∈frs (env::outer):=λen he b hb=>List.mem_filterMap.mpr ⟨en,he,hb⟩
 have st:s1.heap.FunFrames base (env::outer):=I.stack
 have loc:∀b,b∈frs (env::outer)->b=s.heap.objs.size\/b∈frs outer:=λb hb=>Yk.mp (I.Zfn b hb)
 have old:∀b o,s.heap.get? b=some o->b∉frs outer->b∉frs (env::outer):=λb o q nb hb=>by
  rcases loc b hb with z|z
  ·exact absurd (Yi q) (by rw[z];exact YE _)
  ·exact nb z
 have un:Un (frs outer) [] H H1 s.heap s1.heap:=I.base
 have hokB:HOk P w H1 B:=λa o q=>by
  have nf:∀b o,H1 b=some o->b∉frs (env::outer):=λb o z hb=>by
   have:=I.ZhE b hb
   rw[this]at z;cases z
  refine(I.hok a o q).ZhC (λb u hb z=>?_) (λ_ z=>z) (λ_ _ z=>z) λ_ _ _ z=>z
  rcases hb with hb|hb
  ·rw[hb]at z⊢;exact PySem.W.hideAll_get _ z (nf a o q)
  ·exact PySem.W.hideAll_get _ z (nf b _ hb)
 refine wpAny_leaves_madeW (base:=B) (h:=s1.heap) (env:=env) (outer:=outer) (L:=s.heap.objs.size) I.ok.frames rfl (λb o q=>PySem.W.of_hideAll _ q) (PySem.W.funFrames_hide st hin) hx λh2 t x1 x2 x3 x4=>?_
 refine⟨e,C,.ref t,H1,B,rfl,⟨I.os,I.bare,x1,hokB,λb o q n nb=>?_,λb o q hb hd=>?_,λb o q n=>un.free b o q n (by simp),λb o q nb=>?_,un.tups,un.frzs,un.tbls⟩,hE⟩
 ·exact PySem.W.hideAll_get _ (un.keep b o q n nb (by simp)) (old b o q nb)
 ·obtain⟨sl,z⟩:=un.slot b o q (I.ok.frf b hb) hb (by simp)
  obtain⟨sl2,z2⟩:=x4 b _ (hx.keeps _ _ z) hd
  exact⟨sl2,z2⟩
 ·obtain⟨o',z⟩:=un.there b o q (by simp)
  exact⟨o',PySem.W.hideAll_get _ z (old b o q nb)⟩
theorem ZnF:Passes (CXE P w) (Zfp (CXE P w) P w K mg base N qual scope f cd A outer s H E) E:=by
 intro pins σ H1 s1 ev s2 I h
 obtain⟨e,C,a0,H',B,rfl,F,hE⟩:=h
 let env:=envOfC qual scope s.heap.objs.size f cd
 have un:Un (frs outer) [] H H1 s.heap s1.heap:=I.base
 have loc:∀b,b∈frs (env::outer)->b=s.heap.objs.size\/b∈frs outer:=λb hb=>Yk.mp (I.Zfn b hb)
 have old:∀b o,s.heap.get? b=some o->b∉frs outer->b∉frs (env::outer):=λb o q nb hb=>by
  rcases loc b hb with z|z
  ·exact absurd (Yi q) (by rw[z];exact YE _)
  ·exact nb z
 refine wpAny_leaves_onW (env:=env) (outer:=outer) (L:=s.heap.objs.size) I.ok.frames rfl F.fly λh2 x1 x2=>?_
 refine⟨e,C,a0,H',B,rfl,⟨F.os.trans I.os,F.bare,x1,F.hok,λb o q n nb=>F.keep b o (un.keep b o q n nb (by simp)) (un.free b o q n (by simp)) (old b o q nb),λb o q hb hd=>?_,λb o q n=>?_,λb o q nb=>?_,λb xs z=>F.tups b xs (un.tups b xs z),λb o u z=>F.frzs b o u (un.frzs b o u z),λb ps z=>?_⟩,hE⟩
 ·obtain⟨sl,z⟩:=un.slot b o q (I.ok.frf b hb) hb (by simp)
  obtain⟨en,he,hf⟩:=List.mem_filterMap.mp hb
  obtain⟨sl2,z2⟩:=F.slot b _ z (List.mem_filterMap.mpr ⟨en,.tail _ he,hf⟩) hd
  obtain⟨sl3,z3⟩:=x2 b _ z2 hd
  exact⟨sl3,z3⟩
 ·by_cases hb:b∈frs outer
  ·have h1:H1 b=none:=un.free b o q n (by simp)
   obtain⟨sl,z⟩:=un.slot b o q n hb (by simp)
   exact F.free b _ z h1
  ·exact F.free b o (un.keep b o q n hb (by simp)) (un.free b o q n (by simp))
 ·obtain⟨o',z⟩:=un.there b o q (by simp)
  exact F.there b o' z (old b o q nb)
 ·obtain⟨m1,z1⟩:=un.tbls b ps z
  obtain⟨m2,z2⟩:=F.tbls b _ z1
  exact⟨m1++m2,by rw[<-Array.append_assoc];exact z2⟩
end
abbrev bmV:List Value:=[.type "ValueError",.type "Exception",.type "BaseException",.type "object"]
abbrev newV:String:="ValueError.__new__"
theorem own_mk {K:PySem.W.Frag}{h:Heap}{mg:Str->Option Value}{x:Str}{C:Addr} (X:K.In h) (hm:mg x=some (.ref C)) (q:PySem.W.excIn K C bmV newV=true):OwnCls x C bmV newV mg h:=by
 refine⟨hm,?_⟩
 unfold PySem.W.excIn at q;split at q
 ·rename_i dd cd sl ho
  split at q
  ·rename_i C' bm k0 k1 k2 k3 n k5 hmm hs
   simp only[Bool.and_eq_true,beq_iff_eq,Bool.not_eq_true']at q;obtain⟨⟨⟨⟨⟨rfl,rfl⟩,hdel⟩,ht⟩,hok⟩,hni⟩:=q
   obtain⟨nm,bs,mro,ns,qn,hd,sn,sub,ab,col,del⟩:=cd;dsimp only at hmm hdel hok hni;subst hmm hdel
   have hsl:sl=#[k0,k1,k2,k3,some (.builtin newV),k5]:=by obtain⟨l⟩:=sl;simp only at hs;rw[hs]
   subst hsl;exact⟨bm,ns,nm,qn,bs,hd,sn,sub,ab,col,dd,k0,k1,k2,k3,k5,_,X _ _ ho,.of_isNs (PySem.W.isNs_of_in X hok),PySem.W.nsMap_none_of_in X hok hni,PySem.W.tail_of_in X ht⟩
  ·cases q
 ·cases q
section
variable {X:Cx}
noncomputable def Zl8 (C:Addr) (E:XK) (t:TA):TS:=λ_ σ H=>t σ H λvs H1=>vs.length<=sizeLine/\E (.ref C) none H1
theorem Zl9 {x:Str}{C:Addr}{np cpos pos:Pos}{e0:Expr}{es:List Expr}{t:TA}{E:XK} (hc:X.calm=true) (hg:Gl X x) (hm:X.mg x=some (.ref C)) (q:PySem.W.excIn X.K C bmV newV=true) (ha:PA X (e0::es) t)
  (hx:∀pins σ H s h' e vs,Inv X pins σ H s->Heap.MadeExcOf s.heap h' e (.ref C) vs->E (.ref C) none H->X.xe (.ref e) {s with heap:=h'})
  (he:starEach (e0::es) X.env=(false,eval e0 X.env)::starEach es X.env:=by rfl) (hpl:(backTo cpos (starEach es X.env)).any (·.1)=false:=by rfl) (hd:(x==("__debug__":Str))=false:=by decide) :
  PS X (.Raise (some (.Call (.Name x np) (e0::es) [] cpos)) none pos) (Zl8 C E t):=by
 intro pins s σ H D I h
 obtain⟨tl,Nn,nm,qn,bs,hdct,sn,sub,ab,col,dd,k0,k1,k2,k3,k5,mN,hC,hN,hni,T⟩:=(own_mk (x:=x) I.mod.kin hm q).obj
 refine wpAny_Raise_call_subT (C:=C) (nm:=nm) (q:=qn) (N:=Nn) (bs:=bs) (bm:=tl) (hdct:=hdct) (sn:=sn) (sub:=sub) (ab:=ab) (col:=col) (dd:=dd) (k0:=k0) (k1:=k1) (k2:=k2) (k3:=k3) (k5:=k5)
  PySem.F.excBase_ValueError (mN:=mN) (T.hasType PySem.F.excBase_ValueError.hasBase) (I.ok.hd hc) (by rw[he];show(false||(backTo cpos (starEach es X.env)).any (·.1))=false;rw[hpl];rfl) hni (Zj7 I hg hm ⟨rfl,?_⟩ hd)
 have h2:=ha cpos pins s σ H _ I h
 rw[he]at h2⊢
 exact Calls.evalArgs_plain (thn h2 λus s2 ⟨vs,H2,I2,r,z,q2⟩=>⟨rfl,by rw[<-r.length];exact z,I2.bk _ _ hC,hN.keeps I2.bk,T.keeps I2.bk,λh' e hm'=>hx pins σ H2 s2 h' e us I2 hm' q2⟩)
end
section
variable {P:Program}{w:World}{K:PySem.W.Frag}{mg:Str->Option Value}{base:Heap}
theorem Fun.okX {x qual:Str}{st:Stmt}{f:Addr}{fd:FuncData}{N ps:List Str}{k:Nat}{sp:Sp} (F:Fun K x qual st f fd) (S:FnScope N ps (defScope st)) (len:∀vs H Q E,sp vs H Q E->vs.length=ps.length)
  (hbody:∀(cdv:Value) (A:Around) (outer:List Env) (s:Shared) (H:Hp) (vs:List V) (Q:VK) (E:XK),Room k (A.deeper (envOfC qual (defScope st) s.heap.objs.size f cdv))->sp vs H Q E ->
   ∃t,PSs (Zfp (CXE P w) P w K mg base N qual (defScope st) f cdv A outer s H E) (defBody st) t/\t {nx:=λ_ H'=>Q .non H',rt:=Q} (start N vs) H):FnOk P w K mg base (CXE P w) (k+1) f fd ps sp:=by
 obtain⟨oc,od,kV,doc,pm,an,cdv,ct,osl,rfl,lk,hcd⟩:=F.ex
 exact fn_of lk hcd S len λA outer s H vs Q E hr hsp=>hbody cdv A outer s H vs Q E hr hsp
end
end L2
namespace L2
open PySem PySem.Spec PyProof.Rows PySem.W
theorem Zkn:∀{ns:List Int}{us:List Value},Vals (ns.map V.int) us->∃xs:Array (Int×Tok),us.toArray=intItems xs/\xs.toList.map (·.1)=ns
 |[],_,.nil=>⟨#[],by simp[intItems],rfl⟩
 |n::ns,_,.cons (b:=u) r t=>by
  obtain⟨tk,rfl⟩:=(show ∃t,u=Value.int n t from r)
  obtain⟨xs,e1,e2⟩:=Zkn t
  refine⟨#[(n,tk)]++xs,?_,by simp[e2]⟩
  have:∀(l:List Value),(Value.int n tk::l).toArray=#[Value.int n tk]++l.toArray:=λl=>by simp
  rw[this,e1]
  simp[intItems]
section
variable {X:Cx}
theorem Za7:OpR X (binaryOp .Mult) (rI IntMulOk λi j=>.int (i*j)):=opI λ_ _ _ _ _ _ _ hc q=>mul_int q hc
theorem ZkW (hc:X.calm=true):ZaI X (.builtin "min") (λxs H Q=>∃(p:Addr) (ns:List Int),xs=[.ref p]/\SqL X.K H p (ns.map V.int)/\ns≠[]/\∀m,m∈ns->(∀a∈ns,m<=a)->Q (.int m) H):=by
 intro pins s σ H xs us Q I r h
 obtain⟨p,ns,rfl,hp,hne,q⟩:=h
 obtain⟨u,rfl,ru⟩:=r.one
 cases(show u=Value.ref p from ru)
 obtain⟨its,rv,pl,hz⟩:=I.list hp
 obtain⟨ys,e1,e2⟩:=Zkn rv
 have hsz:0<ys.size:=by
  have:=congrArg List.length e2
  rw[Yc,YI]at this
  cases ns with
  |nil=>exact absurd rfl hne
  |cons=>simp at this;omega
 refine min_intList (xs:=ys) (I.ok.hd hc) (e1▸pl.isList) hsz λv h' tk hv k=>?_
 obtain⟨t,rfl⟩:=intItems_at hv
 obtain⟨h1,h2⟩:=argBest_lt (numAt ys) (ys.size-1)
 refine⟨.int _,H,I.kept k,⟨t,rfl⟩,q _ ?_ λa ha=>?_⟩
 ·rw[numAt_eq,e2];exact getD_mem (by rw[<-e2,Yc,YI];omega)
 ·obtain⟨j,hj,rfl⟩:=mem_getD ha
  rw[<-e2,Yc,YI]at hj
  rw[<-e2,<-numAt_eq];exact h2 j (by omega)
noncomputable def PJ (X:Cx) (es:List (Sem Value)) (t:St->Hp->(Hp->Prop)->Prop):Prop :=
 ∀(out:Str) (pins:List (Addr×Obj)) (s:Shared) (σ:St) (H:Hp) (Q:Hp->Prop),out.length+2000*es.length<=100000->Inv X pins σ H s->t σ H Q ->
  wpAny (model X.prog X.w) X.A (joinParts out es) (λu s'=>∃y tk H',u=.str y tk/\Inv X pins σ H' s'/\Q H') X.xe s
theorem pj_nil:PJ X [] (λ_ H Q=>Q H):=λout pins s σ H Q hl I h =>
 joinParts_nil ⟨out,_,H,rfl,I.tok _,h⟩ (by simp at hl;exact Yh hl (by decide))
theorem ZhP {x:Str}{j:Nat}{pos:Pos}{es:List (Sem Value)}{t:St->Hp->(Hp->Prop)->Prop} (hx:x.length<=2000) (h:PJ X es t):PJ X (eval (.Constant (.str x) j pos) X.env::es) t:=by
 intro out pins s σ H Q hl I hq
 have hl':(out++x).length+2000*es.length<=100000:=by rw[PySem.strLen_append];simp at hl;omega
 refine joinParts_cons (Calls.Constant_str ⟨Yh (Yh (Nat.le_add_right _ _) hl') (by decide),?_⟩)
 exact h _ pins _ σ H Q hl' (I.tok _) hq
theorem ZkX {i:Int} (h0:0<=i) (h1:i<10 ^ 18):i.natAbs.log2<1920:=by
 by_cases hz:i.natAbs=0
 ·rw[hz];decide
 ·have h3:i.natAbs<2 ^ 60:=by
   have:(2:Nat) ^ 60=1152921504606846976:=by decide
   have h2:(10:Int) ^ 18=1000000000000000000:=by decide
   omega
  exact Yw ((Nat.log2_lt hz).mpr h3) (by decide)
theorem Zma {e:Expr}{pos:Pos}{es:List (Sem Value)}{te:TE}{t:St->Hp->(Hp->Prop)->Prop} (he:PE X e te) (h:PJ X es t):PJ X (eval (.FormattedValue e (-1) none pos) X.env::es) (fun σ H Q=>te σ H λx H1=>∃i:Int,x=.int i/\(0<=i/\i<10 ^ 18)/\t σ H1 Q):=by
 intro out pins s σ H Q hl I hq
 refine joinParts_cons (FormattedValue_plain (thn (he pins s σ H _ I hq) λu s1 ⟨x,H1,I1,r1,i,ex,⟨h0,h1⟩,q⟩=>?_))
 subst ex
 obtain⟨tk,rfl⟩:=(show ∃t,u=Value.int i t from r1)
 refine wpAny_formatField_int (ZkX h0 h1) ?_
 have hx:(Str.ofString (toString i)).length<=18:=toString_length_le h0 (by decide) h1
 have hl':(out++Str.ofString (toString i)).length+2000*es.length<=100000:=by rw[PySem.strLen_append];simp at hl;omega
 refine⟨Yh (Yh (Nat.le_add_right _ _) hl') (by decide),?_⟩
 exact h _ pins _ σ H1 Q hl' (I1.tok _) q
theorem Ziz (env:Env):∀l:List Expr,(evalEach l env).length=l.length
 |[]=>rfl
 |e::r=>by
  have:evalEach (e::r) env=eval e env::evalEach r env:=rfl
  rw[this,YN,YN,Ziz env r]
theorem ZkY {e1 e2:Expr}{rest:List Expr}{pos:Pos}{t:St->Hp->(Hp->Prop)->Prop} (h:PJ X (eval e1 X.env::eval e2 X.env::evalEach rest X.env) t) (hn:rest.length<=20:=by decide) :
  PE X (.JoinedStr (e1::e2::rest) pos) (fun σ H Q=>t σ H λH1=>∀y,Q (.str y) H1):=by
 intro pins s σ H Q I hq
 have hle:=Ziz X.env rest
 refine JoinedStr_many (thn (h Str.empty pins s σ H _ (by simp only[YN,hle];show 0+_<=_;omega) I hq) λu s' ⟨y,tk,H',e,I',q⟩=>?_)
 subst e
 exact⟨.str y,H',I',⟨tk,rfl⟩,q y⟩
end
noncomputable def clsAt (mg:Str->Option Value) (x:Str):Addr:=match mg x with
 |some (.ref C)=>C
 |_=>0
noncomputable def Callee (P:Program) (w:World) (K:Frag) (mg:Str->Option Value) (base:Heap) (x:Str) (k:Nat) (ps:List Str) (sp:Sp):Prop :=
 ∃f fd,mg x=some (.ref f)/\keepIn K (.ref f)=true/\Binds K fd ps []/\FnOk P w K mg base (CXE P w) k f fd ps sp
section
variable {X:Cx}
theorem Zat {st:Stmt}{t:TS} (h:PS X.nox st t):PS X st t:=λpins s σ H D I hw =>
 YR (h pins s σ H D (I.ZgX _) hw) (λ_ _ q=>q.Zdw) λ_ _ z=>False.elim z
theorem Zk {x:Str}{k:Nat}{ps:List Str}{sp:Sp}{E:XK}{e:Expr}{es:List Expr}{t:TA}{p pos:Pos} (C:Callee X.prog X.w X.K X.mg X.base x k ps sp) (hr:Room k X.A) (hg:Gl X x) (hx:Passes (CXE X.prog X.w) X E)
  (ha:PA X (e::es) t) (hdb:(x==("__debug__":Str))=false:=by decide) (he:starEach (e::es) X.env=(false,eval e X.env)::starEach es X.env:=by rfl) (hpl:(backTo pos (starEach es X.env)).any (·.1)=false:=by rfl) :
  PE X (.Call (.Name x p) (e::es) [] pos) (Zke sp [] E t):=by
 obtain⟨f,fd,hm,hk,hb,F⟩:=C
 exact Zkf F hr hg hm hk hb .nil hx ha hdb he hpl
theorem ZnG {P:Program}{w:World}{K:Frag}{mg:Str->Option Value}{base:Heap}{N:List Str}{qual:Str}{scope:Scope}{f:Addr}{cd:Value}{A:Around}{outer:List Env}{s0:Shared}{H0:Hp}{E:XK}{C:Addr} :
  ∀pins σ H s h' e vs,Inv (Zfp (CXE P w) P w K mg base N qual scope f cd A outer s0 H0 E) pins σ H s->Heap.MadeExcOf s.heap h' e (.ref C) vs->E (.ref C) none H->(Zfp (CXE P w) P w K mg base N qual scope f cd A outer s0 H0 E).xe (.ref e) {s with heap:=h'} :=
 λ_ _ _ _ _ _ _ I hx hE=>ZhO I hx hE
end
theorem bt_max:bootBuiltins "max"=some (.builtin "max"):=by decide +kernel
theorem Zmb:bootBuiltins "min"=some (.builtin "min"):=by decide +kernel
theorem Zen:bootBuiltins "isinstance"=some (.builtin "isinstance"):=by decide +kernel
theorem Zce:bootBuiltins "list"=some (.type "list"):=by decide +kernel
theorem ZcN:bootBuiltins "tuple"=some (.type "tuple"):=by decide +kernel
theorem bt_int:bootBuiltins "int"=some (.type "int"):=by decide +kernel
theorem ZnH:bootBuiltins "bool"=some (.type "bool"):=by decide +kernel
section
variable {X:Cx}{pins:List (Addr×Obj)}{σ:St}{H:Hp}{s:Shared}{h':Heap}
theorem Inv.ZhQ {t':Nat}{fp:List Addr} (I:Inv X pins σ H s) (k:∀b o,b∉fp->s.heap.get? b=some o->h'.get? b=some o) (hf:∀b∈fp,FpOk X pins H b):Inv X pins σ H {s with heap:=h',toks:=t'}:=by
 have nit:∀b u,H b=some u->b∉fp:=λb u e z=>by rw[(hf b z).1]at e;cases e
 refine I.step (g':=s.gens) (d':=s.drawn) (ch:=fp) (λb hb=>?_) (λb o _ _ hc e _=>k b o hc e) (λb o _ _ hc e _=>⟨o.slots,k b o hc e⟩) (λ_ _ _ _ n=>n)
  (λb o hc e=>⟨o,k b o hc e⟩) (λ_ _ e=>e) (λ_ _ _ e=>e) (λb ps e=>⟨#[],by rw[e];simp⟩) (λm hm=>?_) (λb u e=>?_) I.bare
 ·obtain⟨_,f1,_,f3,f4,f5⟩:=hf b hb
  exact⟨f3,f1,f4,f5⟩
 ·obtain⟨o,es,ep,ho,r⟩:=hm
  exact⟨o,es,ep,k _ o (λz=>(hf _ z).2.1 rfl) ho,r⟩
 ·refine(I.hok b u e).ZhC (λc v hc q=>k c v ?_ q) (λ_ q=>q) (λ_ _ q=>q) λ_ _ _ q=>q
  rcases hc with z|z
  ·rw[z];exact nit b u e
  ·exact nit c _ z
noncomputable def Itz (K : Frag) (a b : Addr) : It :=
  ⟨fun i H => ∃ xs ys x y, SqL K H a xs ∧ SqL K H b ys ∧ xs[i]? = some x ∧ ys[i]? = some y,
   fun i H v H' => ∃ p x y, H p = none ∧ v = .ref p ∧ H' = upd H p (.tup [x, y]) ∧ (∀ xs, SqL K H a xs → xs[i]? = some x) ∧ ∀ ys, SqL K H b ys → ys[i]? = some y,
   fun i H => ∃ xs ys, SqL K H a xs ∧ SqL K H b ys ∧ (xs.length ≤ i ∨ ys.length ≤ i)⟩
theorem Zmc {P:Program}{w:World}{K:Frag}{elts:List Expr} {x1}{pos:Pos}{a b z TI TO i1 i2:Addr} (D:ZipApart z TI TO i1 i2 a b) :
  Turn P w K (.Tuple elts x1 pos) (Itz K a b) [z,TI,TO,i1,i2] z (λi h=>IsZip h z TI TO .none/\IsPair h TI (.ref i1) (.ref i2)/\(∃u v,IsPair h TO u v)/\h.IsListIter i1 a i/\h.IsListIter i2 b i) where
 mem:=by simp
 obj:=λi h st c hc=>by
  obtain⟨q1,q2,⟨u,v,q3⟩,⟨o4,q4,_,d4⟩,⟨o5,q5,_,d5⟩⟩:=st
  simp at hc
  rcases hc with rfl|rfl|rfl|rfl|rfl
  ·exact⟨_,q1,λv z=>by cases z⟩
  ·exact⟨_,q2,λv z=>by cases z⟩
  ·exact⟨_,q3,λv z=>by cases z⟩
  ·exact⟨_,q4,λv z=>by rw[d4]at z;cases z⟩
  ·exact⟨_,q5,λv z=>by rw[d5]at z;cases z⟩
 keep:=λi h h' st k=>by
  obtain⟨q1,q2,⟨u,v,q3⟩,q4,q5⟩:=st
  exact⟨k z (by simp) _ q1,k TI (by simp) _ q2,⟨u,v,k TO (by simp) _ q3⟩,q4.at λo e=>k i1 (by simp) o e,q5.at λo e=>k i2 (by simp) o e⟩
 item:=by
  intro X hP hw hK hc i pins s σ H E I hf st hg
  subst hP hw hK
  obtain⟨xs,ys,x,y,qa,qb,hx,hy⟩:=hg
  obtain⟨q1,q2,⟨u0,v0,q3⟩,q4,q5⟩:=st
  obtain⟨is1,r1,p1,_⟩:=I.list qa
  obtain⟨is2,r2,p2,_⟩:=I.list qb
  obtain⟨u,hu,ru⟩:=r1.get hx
  obtain⟨v,hv,rv⟩:=r2.get hy
  refine wpAny_pyNext_zip_item D q1 q2 q3 q4 q5 p1.isList p2.isList (x:=u) (y:=v) (by simpa using hu) (by simpa using hv) λh' a1 a2 a3 a4 a5 a6 a7=>?_
  refine⟨_,rfl,?_⟩
  refine wpAny_letOwnedTupleGo_zip (s:={s with heap:=h'}) a1 λh2 b1 b2=>?_
  have hfr:H s.heap.objs.size=none:=I.hok.fresh (Ya _)
  have I1:Inv X pins σ (upd H s.heap.objs.size (.tup [x,y])) {s with heap:=s.heap.push {cls:=.type "tuple",data:=.seq #[u,v]}}:=by
   refine I.laid (t':=s.toks) (λb u e=>Ys _ e) (Ya _) ?_
   exact⟨by show 2<=sizeLine;decide,[u,v],.cons ru (.cons rv .nil),⟨_,YD _ rfl,rfl,_,rfl⟩⟩
  have nz:∀c∈[z,TI,TO,i1,i2],c≠s.heap.objs.size:=λc hc e=>by
   have:∃o,s.heap.get? c=some o:=by
    simp at hc
    rcases hc with rfl|rfl|rfl|rfl|rfl
    ·exact⟨_,q1⟩
    ·exact⟨_,q2⟩
    ·exact⟨_,q3⟩
    ·obtain⟨o,q,_⟩:=q4;exact⟨o,q⟩
    ·obtain⟨o,q,_⟩:=q5;exact⟨o,q⟩
   obtain⟨o,q⟩:=this
   exact absurd (Yi q) (by rw[e];exact YE _)
  have hf1:∀c∈[z,TI,TO,i1,i2],FpOk X pins (upd H s.heap.objs.size (.tup [x,y])) c:=λc hc=>by
   obtain⟨f0,f1,f2,f3,f4,f5⟩:=hf c hc
   exact⟨by rw[Zq (nz c hc)];exact f0,f1,f2,f3,f4,f5⟩
  have I2:Inv X pins σ (upd H s.heap.objs.size (.tup [x,y])) {s with heap:=h2}:=by
   refine Inv.ZhQ (s:={s with heap:=s.heap.push {cls:=.type "tuple",data:=.seq #[u,v]}}) (t':=s.toks) (fp:=[z,TI,TO,i1,i2]) I1 (λc o hc e=>?_) hf1
   simp only[Yk,List.not_mem_nil,or_false,not_or]at hc
   obtain⟨c1,c2,c3,c4,c5⟩:=hc
   refine b2.extBut _ _ c1 ?_
   by_cases hs:c=s.heap.objs.size
   ·subst hs
    have e':(s.heap.push {cls:=.type "tuple",data:=.seq #[u,v]}).get? s.heap.objs.size=some _:=YD _ rfl
    have ee:o={cls:=.type "tuple",data:=.seq #[u,v]}:=by
     have:=e.symm.trans e'
     exact Yx this
    rw[ee];exact a5
   ·have:s.heap.get? c=some o:=by
     rcases Heap.get?_push_cases e with⟨q,_⟩|q
     ·exact absurd q hs
     ·exact q
    exact a7 c o c1 c3 c4 c5 this
  refine⟨.ref s.heap.objs.size,_,I2,rfl,⟨_,x,y,hfr,rfl,rfl,λxs' q'=>?_,λys' q'=>?_⟩,⟨b1,?_,⟨u,v,?_⟩,?_,?_⟩,λc hc=>(hf1 c hc).1⟩
  ·rw[I.ZbQ q' qa];exact hx
  ·rw[I.ZbQ q' qb];exact hy
  ·exact b2.extBut _ _ D.TIz (a7 _ _ D.TIz D.TITO D.TIi1 D.TIi2 q2)
  ·exact b2.extBut _ _ D.TOz a2
  ·exact a3.extBut b2.extBut D.i1z
  ·exact a4.extBut b2.extBut D.i2z
 done:=by
  intro X hP hw hK hc i pins s σ H E I hf st hg
  subst hP hw hK
  obtain⟨xs,ys,qa,qb,hx⟩:=hg
  obtain⟨q1,q2,⟨u0,v0,q3⟩,q4,q5⟩:=st
  obtain⟨is1,r1,p1,_⟩:=I.list qa
  obtain⟨is2,r2,p2,_⟩:=I.list qb
  refine wpAny_pyNext_zip_end (I.ok.hd hc) D q1 q2 q3 q4 q5 p1.isList p2.isList ?_ λh' k=>⟨rfl,I.ZhQ (t':=s.toks) (fp:=[z,TI,TO,i1,i2]) (λc o hc e=>?_) hf⟩
  ·rcases hx with hx|hx
   ·left;simp;rw[<-r1.length];exact hx
   ·right;simp;rw[<-r2.length];exact hx
  ·simp only[Yk,List.not_mem_nil,or_false,not_or]at hc
   obtain⟨c1,c2,c3,c4,c5⟩:=hc
   exact k c o c1 c3 c4 c5 e
 self:=λ_ _ _ _ _ st h=>wpAny_pyIter_zip st.1 h
theorem zapart (n a b:Nat) (h1:a<n) (h2:b<n):ZipApart (n+4) (n+2) (n+3) n (n+1) a b:=by
 constructor<;>(show ¬ ((_:Nat)=_);omega)
noncomputable def iZip (K:Frag) (ta:TA):TI:=fun σ H R=>ta σ H λvs H1=>∃a b xs ys,vs=[.ref a,.ref b]/\SqL K H1 a xs/\SqL K H1 b ys/\R (Itz K a b) H1
theorem ZkZ:bootBuiltins "zip"=some (.type "zip"):=by decide +kernel
theorem Zjv {elts:List Expr} {x1}{tp:Pos}{e1 e2:Expr}{ta:TA}{p pos:Pos} (hg:Gl X "zip") (hm:X.mg "zip"=none) (ha:PA X [e1,e2] ta) (he:starEach [e1,e2] X.env=(false,eval e1 X.env)::starEach [e2] X.env:=by rfl) (hpl:(backTo pos (starEach [e2] X.env)).any (·.1)=false:=by rfl) :
  PI X (.Tuple elts x1 tp) (.Call (.Name "zip" p) [e1,e2] [] pos) (iZip X.K ta):=by
 intro pins s σ H R I h
 refine wpAny_Call_Name_kw (Zdu I hg hm ZkZ ?_)
 refine PyProof.Rows.callWith_type1 (thn (ha pos pins s σ H _ I h) λus s1 ⟨vs,H1,I1,r1,a,b,xs,ys,e1,qa,qb,q⟩=>?_) he hpl
 subst e1
 obtain⟨u,v,rfl,ru,rv⟩:=r1.two
 cases(show u=Value.ref a from ru)
 cases(show v=Value.ref b from rv)
 obtain⟨is1,rr1,p1,_⟩:=I1.list qa
 obtain⟨is2,rr2,p2,_⟩:=I1.list qb
 refine call_zip_2 p1.isList p2.isList λh' c1 c2 c3 c4 c5 c6 c7=>?_
 refine wpAny_pyIter_zip c1 ?_
 have l1:a<s1.heap.objs.size:=by obtain⟨o,e,_⟩:=p1.isList;exact Yi e
 have l2:b<s1.heap.objs.size:=by obtain⟨o,e,_⟩:=p2.isList;exact Yi e
 have sm:∀b,s1.heap.objs.size<=b->FpOk X pins H1 b:=λb hb=>I1.Zjr hb (I1.hok.fresh hb)
 refine⟨_,[s1.heap.objs.size+4,s1.heap.objs.size+2,s1.heap.objs.size+3,s1.heap.objs.size,s1.heap.objs.size+1],_,_,H1,rfl,I1.kept (t':=s1.toks) c7,Zmc (a:=a) (b:=b) ?_,⟨c1,c2,⟨_,_,c3⟩,c4,c5⟩,λc hc=>?_,q⟩
 ·exact zapart _ _ _ l1 l2
 ·simp at hc
  rcases hc with rfl|rfl|rfl|rfl|rfl<;>exact sm _ (by omega)
end
theorem cxK {CX:CXT}{P:Program}{w:World}{K:Frag}{mg:Str->Option Value}{base:Heap}{N:List Str}{qual:Str}{scope:Scope}{f:Addr}{cd:Value}{A:Around}{outer:List Env}{s:Shared}{H:Hp}{E:XK} :
  (Zfp CX P w K mg base N qual scope f cd A outer s H E).K=K:=rfl
theorem Zf.upd {H H1:Hp}{p:Addr}{o:HO} (h:H p=none) (e:Zf H H1):Zf H (upd H1 p o):=λb u z=>by
 rw[Zq (ZV z h)];exact e b u z
theorem Zf.ZS {H H1:Hp}{p:Addr}{o:HO} (e:Zf H H1) (h:H1 p=none):Zf H (L2.upd H1 p o):=e.upd (e.free h)
theorem Zef {X:Cx}{K:Frag}{es:List Expr}{pos:Pos}{k:Nat}{t:TGs}{n:Nat} (hK:X.K=K) (hc:X.calm=true) (h:PGs X es t)
  (hn:(assignEach es X.env).length=n:=by rfl) (hst:(assignEach es X.env).findIdx? (·.1)=none:=by rfl):PG X (.Tuple es k pos) (gTup K n t):=hK▸ZcU hc h hn hst
noncomputable def LoopR (J:It) (g:TG) (tb:TS) (D:Ends) (σ:St) (H1:Hp):Prop:=∃W:Nat->Nat->St->Hp->Prop,(∃m,W 0 m σ H1)/\∀i m σ H,W i m σ H ->
 (J.stop i H/\D.nx σ H)\/(J.go i H/\∃N:St->Hp->Prop,(∀σ' H',N σ' H'->∃m',m'<m/\W (i+1) m' σ' H')/\∀x H',J.yld i H x H'->g x σ H' fun σ2 H2=>tb {D with nx:=N,ct:=N,bk:=D.nx} σ2 H2)
theorem ZnI {wi:TI}{g:TG}{tb:TS}{D:Ends}{σ:St}{H:Hp}:tFor wi g tb D σ H=wi σ H λJ H1=>LoopR J g tb D σ H1:=rfl
noncomputable def Zmd (c:TT) (tb:TS) (D:Ends) (σ:St) (H:Hp):Prop:=Zjq c tb D σ H
theorem Zk0 {c:TT}{tb:TS}{D:Ends}{σ:St}{H:Hp}:Zjq c tb D σ H=Zmd c tb D σ H:=rfl
noncomputable def ZdB (J:It) (g:TG) (tt:TT) (te:TE) (σ0:St) (Q:VK) (H1:Hp):Prop:=∃W:Nat->Nat->List V->Hp->Prop,(∃m,W 0 m [] H1)/\∀i m acc H,W i m acc H ->
 (J.stop i H/\acc.length<=sizeLine/\∀p,H p=none->Q (.ref p) (upd H p (.lst acc))) \/
 (J.go i H/\acc.length<sizeLine/\∀x H',J.yld i H x H'->g x σ0 H' fun σ2 H2=>tt σ2 H2 λb H3=>if b=true then te σ2 H3 λv H4=>∃m',m'<m/\W (i+1) m' (acc++[v]) H4 else ∃m',m'<m/\W (i+1) m' acc H3)
theorem Zme {wi:TI}{g:TG}{tt:TT}{te:TE}{js:List (Option Nat)}{σ:St}{H:Hp}{Q:VK}:Zkm wi g tt te js σ H Q=wi σ H λJ H1=>ZdB J g tt te (ZcX js σ) Q H1:=rfl
noncomputable def CW (n:Nat) (vals:Nat->V) (H1:Hp) (i m:Nat) (acc:List V) (H:Hp):Prop:=m=n-i/\i<=n/\acc=(List.range i).map vals/\Zf H1 H
theorem CW.next {n:Nat}{vals:Nat->V}{H1 H:Hp}{i:Nat}{v:V} (hi:i<n) (hv:v=vals i) (s:Zf H1 H):∃m',m'<n-i/\CW n vals H1 (i+1) m' ((List.range i).map vals++[v]) H :=
 ⟨n-(i+1),by omega,rfl,hi,by rw[YU,YG,hv];rfl,s⟩
theorem comp_map {J:It}{n:Nat}{H1:Hp}{g:TG}{tt:TT}{te:TE}{σ0:St}{Q:VK} (vals:Nat->V) (hn:n<sizeLine) (hgo:∀i H,Zf H1 H->i<n->J.go i H) (hstop:∀H,Zf H1 H->J.stop n H)
  (hb:∀i x H H',i<n->Zf H1 H->J.yld i H x H'->g x σ0 H' fun σ2 H2=>tt σ2 H2 λb H3=>if b=true then te σ2 H3 λv H4=>∃m',m'<n-i/\CW n vals H1 (i+1) m' ((List.range i).map vals++[v]) H4 else ∃m',m'<n-i/\CW n vals H1 (i+1) m' ((List.range i).map vals) H3)
  (hk:∀l H',Zf H1 H'->H' l=none->Q (.ref l) (upd H' l (.lst ((List.range n).map vals)))) :
  ZdB J g tt te σ0 Q H1:=by
 refine⟨CW n vals H1,⟨n,rfl,Yr _,rfl,Zf.refl _⟩,?_⟩
 rintro i m acc H ⟨rfl,hi,rfl,s⟩
 by_cases h:i<n
 ·refine .inr ⟨hgo i H s h,by simpa using Nat.lt_trans h hn,λx H' y=>hb i x H H' h s y⟩
 ·have e:i=n:=by omega
  subst e
  exact .inl ⟨hstop H s,by simpa using YY hn,λp hp=>hk p H s hp⟩
theorem ZhR {α:Type}{xs:List α}{i:Int}{j:Nat} (h:i=(j:Int)) (hj:j<xs.length):atI xs i=some xs[j]:=by
 subst h
 unfold atI ixN
 rw[Yd (by omega),Yd (by omega)]
 simp
theorem Ze2 {α:Type}{xs:List α}{i:Int} (C:α->Prop) (h0:0<=i) (h1:i<xs.length) (h:∀x∈xs,C x):∃v,atI xs i=some v/\C v:=by
 obtain⟨j,rfl⟩:=YO h0
 have hj:j<xs.length:=by omega
 exact⟨xs[j],ZhR rfl hj,h _ (YA hj)⟩
theorem mul_r {a b:Int} (h1:-(2 ^ 64)<b) (h2:b<2 ^ 64):IntMulOk a b:=IntMulOk.of_right (intBits_le_64 h1 h2)
theorem Zko {a b:Int} (h1:-(2 ^ 64)<a) (h2:a<2 ^ 64):IntMulOk a b:=IntMulOk.of_left (intBits_le_64 h1 h2)
theorem Zkp {a b:Int} (ha:Builtin.Int.intBits a<=2 ^ 20) (hb:Builtin.Int.intBits b<=2 ^ 20):IntMulOk a b:=IntMulOk.of_bits ha hb
theorem cp64:ZhF 10 64:=by unfold ZhF;decide
theorem cp18:ZhF 10 18:=by unfold ZhF;decide
theorem cp9:ZhF 10 9:=by unfold ZhF;decide
theorem pm1:IntMulOk (10 ^ Int.toNat 64) (10 ^ Int.toNat 64):=Zkp (by decide +kernel) (by decide +kernel)
theorem pm2:IntMulOk (10 ^ Int.toNat 64*10 ^ Int.toNat 64) (10 ^ Int.toNat 64):=Zkp (by decide +kernel) (by decide +kernel)
noncomputable def Exc (p:Addr) (H H':Hp):Prop:=∀b o,b≠p->H b=some o->H' b=some o
theorem Zf.exc {H H1 H2:Hp}{p:Addr} (s:Zf H H1) (h:H p=none) (e:Exc p H1 H2):Zf H H2:=λb o z=>e b o (ZV z h) (s b o z)
theorem Zf.Zho {H H':Hp}{p:Addr} (s:Zf H H'):Exc p H H':=λb o _ z=>s b o z
theorem Exc.upd {H:Hp}{p:Addr}{o:HO}:Exc p H (L2.upd H p o):=λb u n z=>by rw[Zq n];exact z
theorem ZI {K:Frag}{H:Hp}{p:Addr}{xs:List V} (h:H p=some (.lst xs)):tyV K "list" (.ref p) H:=.inl ⟨rfl,_,SqL.of h⟩
theorem ZnJ {i j:Int}:Zir (.int i) (.int j)=true:=rfl
theorem ZnK {i j:Bool}:Zir (.bl i) (.bl j)=true:=rfl
theorem ZnL {i j:Str}:Zir (.str i) (.str j)=true:=rfl
theorem ZnM:Zir .non .non=true:=rfl
theorem ZnN {i:Int}:Zir .non (.int i)=true:=rfl
theorem ZnO {i:Int}:Zir (.int i) .non=true:=rfl
section
variable {X:Cx}
noncomputable def rLen (K:Frag):List V->Hp->VK->Prop:=λxs H Q=>∃p ys,xs=[.ref p]/\(SqL K H p ys\/SqT K H p ys)/\Q (.int ys.length) H
theorem Zl {K:Frag} (hK:X.K=K):ZaI X (.builtin "len") (rLen K):=by subst hK;exact ZhK
noncomputable def rLof (K:Frag):List V->Hp->VK->Prop:=λxs H Q=>∃p ys,xs=[.ref p]/\(SqL K H p ys\/SqT K H p ys)/\∀l,H l=none->Q (.ref l) (upd H l (.lst ys))
theorem ZaN {K:Frag} (hK:X.K=K):ZaI X (.type "list") (rLof K):=by subst hK;exact ZhL
noncomputable def rTof (K:Frag):List V->Hp->VK->Prop:=λxs H Q=>∃p ys,xs=[.ref p]/\((SqL K H p ys/\∀l,H l=none->Q (.ref l) (upd H l (.tup ys)))\/(SqT K H p ys/\Q (.ref p) H))
theorem ZcO {K:Frag} (hK:X.K=K):ZaI X (.type "tuple") (rTof K):=by subst hK;exact ZgZ
theorem Zhp {K:Frag} (hK:X.K=K):ZaI X (.builtin "isinstance") (rIsi K):=by subst hK;exact Zl7
end
theorem ZnP {a:Addr}{x:Value}:(cOf (.ref a)=some x)=(.ref a=x):=by simp[cOf]
theorem cOf_ty {n:String}{x:Value}:(cOf (.ty n)=some x)=(.type n=x):=by simp[cOf]
theorem ZnQ {xs:List Int}{z:Int} (h:xs.getLast?=some z):atI (xs.map V.int) (-1)=some (V.int z):=by
 unfold atI ixN
 cases xs with
 |nil=>cases h
 |cons x r =>
  have hl:((x::r).map V.int).length=r.length+1:=by simp
  rw[hl,Ye (by omega),Yd (by omega)]
  have e:(-1+((r.length+1:Nat):Int)).toNat=r.length:=by omega
  rw[List.getLast?_eq_getElem?]at h
  show((x::r).map V.int)[(-1+((r.length+1:Nat):Int)).toNat]?=_
  rw[e,Yt]
  have e2:(x::r).length-1=r.length:=by simp
  rw[e2]at h
  rw[h];rfl
noncomputable def Rows (H:Hp) (l:Addr) (rs:List (List Int)):Prop:=∃as:List Addr,H l=some (.lst (as.map V.ref))/\l∉as/\as.length=rs.length/\∀i (h1:i<as.length) (h2:i<rs.length),H as[i]=some (.lst (rs[i].map V.int))
theorem Rows.same {H H':Hp}{l:Addr}{rs:List (List Int)} (R:Rows H l rs) (s:Zf H H'):Rows H' l rs:=by
 obtain⟨as,e,n,hl,h⟩:=R
 exact⟨as,s _ _ e,n,hl,λi h1 h2=>s _ _ (h i h1 h2)⟩
theorem Rows.at {K:Frag}{H:Hp}{l:Addr}{rs:List (List Int)} (R:Rows H l rs) {i:Nat} (h:i<rs.length):∃xs a,SqL K H l xs/\atI xs (i:Int)=some (.ref a)/\H a=some (.lst (rs[i].map V.int)):=by
 obtain⟨as,e,n,hl,hh⟩:=R
 have hi:i<as.length:=by omega
 refine⟨_,as[i],SqL.of e,?_,hh i hi h⟩
 rw[ZhR rfl (by simpa using hi)];simp
theorem Rows.push {H:Hp}{l p:Addr}{rs:List (List Int)}{r:List Int}{as:List Addr} (e:H l=some (.lst (as.map V.ref))) (n:l∉as) (hl:as.length=rs.length) (h:∀i (h1:i<as.length) (h2:i<rs.length),H as[i]=some (.lst (rs[i].map V.int)))
  (hp:H p=some (.lst (r.map V.int))) (np:p≠l):Rows (upd H l (.lst (as.map V.ref++[.ref p]))) l (rs++[r]):=by
 refine⟨as++[p],by rw[Zb];simp,?_,by simp[hl],λi h1 h2=>?_⟩
 ·simp only[Yl,YK,not_or]
  exact⟨n,λz=>np z.symm⟩
 ·by_cases hi:i<as.length
  ·have e1:(as++[p])[i]=as[i]:=List.getElem_append_left hi
   have e2:(rs++[r])[i]=rs[i]'(by omega):=List.getElem_append_left (by omega)
   rw[e1,e2,Zq]
   ·exact h i hi (by omega)
   ·intro z;exact n (z▸YA hi)
  ·have e1:(as++[p])[i]=p:=by rw[List.getElem_append_right (by omega)];simp
   have e2:(rs++[r])[i]=r:=by rw[List.getElem_append_right (by omega)];simp
   rw[e1,e2,Zq np];exact hp
inductive EqD (K:Frag) (H:Hp):Nat->V->V->Bool->Prop
 |flat {n:Nat}{x y:V} (fx:flatV x=true) (fy:flatV y=true):EqD K H n x y (eqV x y)
 |lst {n:Nat}{a b:Addr}{xs ys:List V} (e:Nat->Bool) (hx:SqL K H a xs) (hy:SqL K H b ys) (hl:xs.length=ys.length) (h:∀j x y,xs[j]?=some x->ys[j]?=some y->EqD K H n x y (e j)):EqD K H (n+1) (.ref a) (.ref b) ((List.range xs.length).all e)
 |len {n:Nat}{a b:Addr}{xs ys:List V} (hx:SqL K H a xs) (hy:SqL K H b ys) (hl:xs.length≠ys.length):EqD K H (n+1) (.ref a) (.ref b) false
 |tup {n:Nat}{a b:Addr}{xs ys:List V} (e:Nat->Bool) (hx:SqT K H a xs) (hy:SqT K H b ys) (h:∀j x y,xs[j]?=some x->ys[j]?=some y->EqD K H n x y (e j)):EqD K H (n+1) (.ref a) (.ref b) ((List.range (min xs.length ys.length)).all e&&xs.length==ys.length)
theorem Zmf {x:V} (h:flatV x=true):eqV x x=true:=by
 cases x<;>first
  |rfl
  |(simp[eqV];done)
  |cases h
section
variable {X:Cx}{pins:List (Addr×Obj)}{σ:St}{H:Hp}{s:Shared}
theorem ZiA (I:Inv X pins σ H s) {n:Nat}{x y:V}{b:Bool} (h:EqD X.K H n x y b):x=y->b=true:=by
 induction h with
 |flat fx fy=>rintro rfl;exact Zmf fx
 |lst e hx hy hl h ih =>
  intro z
  cases z
  have:=I.ZbQ hx hy
  subst this
  refine List.all_eq_true.mpr λj hj=>?_
  have hj':=YC.mp hj
  exact ih j _ _ (Yb hj') (Yb hj') rfl
 |len hx hy hl =>
  intro z
  cases z
  have:=I.ZbQ hx hy
  subst this
  exact absurd rfl hl
 |tup e hx hy h ih =>
  intro z
  cases z
  have:=I.Zhf hx hy
  subst this
  rw[Nat.min_self]
  have:(List.range _).all e=true:=List.all_eq_true.mpr λj hj=>by
   have hj':=YC.mp hj
   exact ih j _ _ (Yb hj') (Yb hj') rfl
  rw[this];simp
theorem ZhS (I:Inv X pins σ H s) {n:Nat}{x y:V}{b:Bool} (h:EqD X.K H n x y b):∀(A:Around) (u v:Value),A.units+n<cLine->RelV x u->RelV y v->SeqAt.EqAt A s u v b:=by
 induction h with
 |flat fx fy=>intro A u v _ ru rv;exact ZlZ ru rv fx fy
 |@lst n a b xs ys e hx hy hl h ih =>
  intro A u v hu ru rv
  have hb:=ZiA I (.lst e hx hy hl h)
  cases ru
  cases rv
  by_cases hab:a=b
  ·subst hab
   rw[hb rfl];exact SeqAt.EqAt.same _
  ·obtain⟨is1,r1,p1,_⟩:=I.list hx
   obtain⟨is2,r2,p2,_⟩:=I.list hy
   have e1:=r1.length
   have e2:=r2.length
   have key:=SeqAt.RcAt.lists (A:=A) (s:=s) (e:=e) p1.isList p2.isList (by simp;omega) (by omega) λj h1 h2=>by
    have h1':j<xs.length:=by simpa[e1]using h1
    have h2':j<ys.length:=by simpa[e2]using h2
    obtain⟨u,hu1,ru⟩:=r1.get (Yb h1')
    obtain⟨v,hv1,rv⟩:=r2.get (Yb h2')
    have eu:is1.toArray[j]=u:=by simpa using(Yn.mp hu1).2
    have ev:is2.toArray[j]=v:=by simpa using(Yn.mp hv1).2
    rw[eu,ev]
    exact ih j _ _ (Yb h1') (Yb h2') A.in1 u v (by show A.units+1+n<cLine;omega) ru rv
   have e3:is1.toArray.size=xs.length:=by simp[e1]
   rw[e3]at key
   exact SeqAt.EqAt.of_refs hab key
 |@len n a b xs ys hx hy hl =>
  intro A u v hu ru rv
  cases ru
  cases rv
  have hab:a≠b:=λz=>by subst z;exact hl (congrArg List.length (I.ZbQ hx hy))
  obtain⟨is1,r1,p1,_⟩:=I.list hx
  obtain⟨is2,r2,p2,_⟩:=I.list hy
  have e1:=r1.length
  have e2:=r2.length
  exact SeqAt.EqAt.of_refs hab (SeqAt.RcAt.lists_lengths p1.isList p2.isList (by simp;omega) (by omega))
 |@tup n a b xs ys e hx hy h ih =>
  intro A u v hu ru rv
  have hb:=ZiA I (.tup e hx hy h)
  cases ru
  cases rv
  by_cases hab:a=b
  ·subst hab
   rw[hb rfl];exact SeqAt.EqAt.same _
  ·obtain⟨is1,r1,p1,_⟩:=I.tuple hx
   obtain⟨is2,r2,p2,_⟩:=I.tuple hy
   have e1:=r1.length
   have e2:=r2.length
   have key:=SeqAt.RcAt.tuples (A:=A) (s:=s) (e:=e) p1 p2 (by omega) λj h1 h2=>by
    have h1':j<xs.length:=by simpa[e1]using h1
    have h2':j<ys.length:=by simpa[e2]using h2
    obtain⟨u,hu1,ru⟩:=r1.get (Yb h1')
    obtain⟨v,hv1,rv⟩:=r2.get (Yb h2')
    have eu:is1.toArray[j]=u:=by simpa using(Yn.mp hu1).2
    have ev:is2.toArray[j]=v:=by simpa using(Yn.mp hv1).2
    rw[eu,ev]
    exact ih j _ _ (Yb h1') (Yb h2') A.in1 u v (by show A.units+1+n<cLine;omega) ru rv
   have e3:is1.toArray.size=xs.length:=by simp[e1]
   have e4:is2.toArray.size=ys.length:=by simp[e2]
   rw[e3,e4]at key
   exact SeqAt.EqAt.of_refs hab key
end
noncomputable def rEqD (K:Frag) (neg:Bool):R2:=λx y H Q=>∃a b k,x=.ref a/\y=.ref b/\EqD K H 3 x y k/\Q (.bl (if neg then !k else k)) H
section
variable {X:Cx}
theorem ZhT {K:Frag} (hK:X.K=K) {k:Nat} (hr:Room k X.A):OpR X (compareOp .Eq) (rEqD K false):=by
 subst hK
 have hu0:=hr.un
 intro pins s σ H x y v u Q I rx ry h
 obtain⟨a,b,k,rfl,rfl,h,q⟩:=h
 cases rx
 cases ry
 cases h with
 |flat fx fy=>cases fx
 |@lst n _ _ xs ys e hx hy hl h =>
  obtain⟨is1,r1,p1,_⟩:=I.list hx
  obtain⟨is2,r2,p2,_⟩:=I.list hy
  have e1:=r1.length
  have e2:=r2.length
  have e3:is1.toArray.size=xs.length:=by simp[e1]
  refine SeqAt.eq_listAt (e:=e) p1.isList p2.isList (by simp;omega) (by omega) (λj h1 h2=>?_) ⟨.bl _,H,I,rfl,by rw[e3];exact q⟩
  have h1':j<xs.length:=by simpa[e1]using h1
  have h2':j<ys.length:=by simpa[e2]using h2
  obtain⟨u,hu1,ru⟩:=r1.get (Yb h1')
  obtain⟨v,hv1,rv⟩:=r2.get (Yb h2')
  have eu:is1.toArray[j]=u:=by simpa using(Yn.mp hu1).2
  have ev:is2.toArray[j]=v:=by simpa using(Yn.mp hv1).2
  rw[eu,ev]
  exact ZhS I (h j _ _ (Yb h1') (Yb h2')) X.A.in1 u v (by show X.A.units+1+2<cLine;omega) ru rv
 |@len n _ _ xs ys hx hy hl =>
  obtain⟨is1,r1,p1,_⟩:=I.list hx
  obtain⟨is2,r2,p2,_⟩:=I.list hy
  have e1:=r1.length
  have e2:=r2.length
  exact SeqAt.eq_list_lengthsAt p1.isList p2.isList (by simp;omega) (by omega) ⟨.bl _,H,I,rfl,q⟩
 |@tup n _ _ xs ys e hx hy h =>
  obtain⟨is1,r1,p1,_⟩:=I.tuple hx
  obtain⟨is2,r2,p2,_⟩:=I.tuple hy
  have e1:=r1.length
  have e2:=r2.length
  have e3:is1.toArray.size=xs.length:=by simp[e1]
  have e4:is2.toArray.size=ys.length:=by simp[e2]
  refine SeqAt.eq_tupleAt (e:=e) p1 p2 (by omega) (λj h1 h2=>?_) ⟨.bl _,H,I,rfl,by rw[e3,e4];exact q⟩
  have h1':j<xs.length:=by simpa[e1]using h1
  have h2':j<ys.length:=by simpa[e2]using h2
  obtain⟨u,hu1,ru⟩:=r1.get (Yb h1')
  obtain⟨v,hv1,rv⟩:=r2.get (Yb h2')
  have eu:is1.toArray[j]=u:=by simpa using(Yn.mp hu1).2
  have ev:is2.toArray[j]=v:=by simpa using(Yn.mp hv1).2
  rw[eu,ev]
  exact ZhS I (h j _ _ (Yb h1') (Yb h2')) X.A.in1 u v (by show X.A.units+1+2<cLine;omega) ru rv
theorem Zjw {K:Frag} (hK:X.K=K) {k:Nat} (hr:Room k X.A):OpR X (compareOp .NotEq) (rEqD K true):=by
 subst hK
 have hu0:=hr.un
 intro pins s σ H x y v u Q I rx ry h
 obtain⟨a,b,k,rfl,rfl,h,q⟩:=h
 cases rx
 cases ry
 cases h with
 |flat fx fy=>cases fx
 |@lst n _ _ xs ys e hx hy hl h =>
  obtain⟨is1,r1,p1,_⟩:=I.list hx
  obtain⟨is2,r2,p2,_⟩:=I.list hy
  have e1:=r1.length
  have e2:=r2.length
  have e3:is1.toArray.size=xs.length:=by simp[e1]
  refine SeqAt.RcNeAt.lists (e:=e) p1.isList p2.isList (by simp;omega) (by omega) (λj h1 h2=>?_) _ _ _ _ ⟨.bl _,H,I,rfl,by rw[e3];exact q⟩
  have h1':j<xs.length:=by simpa[e1]using h1
  have h2':j<ys.length:=by simpa[e2]using h2
  obtain⟨u,hu1,ru⟩:=r1.get (Yb h1')
  obtain⟨v,hv1,rv⟩:=r2.get (Yb h2')
  have eu:is1.toArray[j]=u:=by simpa using(Yn.mp hu1).2
  have ev:is2.toArray[j]=v:=by simpa using(Yn.mp hv1).2
  rw[eu,ev]
  exact ZhS I (h j _ _ (Yb h1') (Yb h2')) X.A.in1 u v (by show X.A.units+1+2<cLine;omega) ru rv
 |@len n _ _ xs ys hx hy hl =>
  obtain⟨is1,r1,p1,_⟩:=I.list hx
  obtain⟨is2,r2,p2,_⟩:=I.list hy
  have e1:=r1.length
  have e2:=r2.length
  exact SeqAt.RcNeAt.lists_lengths p1.isList p2.isList (by simp;omega) (by omega) _ _ _ _ ⟨.bl _,H,I,rfl,q⟩
 |@tup n _ _ xs ys e hx hy h =>
  obtain⟨is1,r1,p1,_⟩:=I.tuple hx
  obtain⟨is2,r2,p2,_⟩:=I.tuple hy
  have e1:=r1.length
  have e2:=r2.length
  have e3:is1.toArray.size=xs.length:=by simp[e1]
  have e4:is2.toArray.size=ys.length:=by simp[e2]
  refine SeqAt.RcNeAt.tuples (e:=e) p1 p2 (by omega) (λj h1 h2=>?_) _ _ _ _ ⟨.bl _,H,I,rfl,by rw[e3,e4];exact q⟩
  have h1':j<xs.length:=by simpa[e1]using h1
  have h2':j<ys.length:=by simpa[e2]using h2
  obtain⟨u,hu1,ru⟩:=r1.get (Yb h1')
  obtain⟨v,hv1,rv⟩:=r2.get (Yb h2')
  have eu:is1.toArray[j]=u:=by simpa using(Yn.mp hu1).2
  have ev:is2.toArray[j]=v:=by simpa using(Yn.mp hv1).2
  rw[eu,ev]
  exact ZhS I (h j _ _ (Yb h1') (Yb h2')) X.A.in1 u v (by show X.A.units+1+2<cLine;omega) ru rv
end
noncomputable def IsI (v:V) (i:Int):Prop:=v=.int i
noncomputable def IsL (K:Frag) (H:Hp) {α:Type} (P:V->α->Prop) (v:V) (as:List α):Prop:=∃a xs,v=.ref a/\SqL K H a xs/\xs.length=as.length/\∀(j:Nat) (x:V) (y:α),xs[j]?=some x->as[j]?=some y->P x y
noncomputable def IsT (K:Frag) (H:Hp) {α:Type} (P:V->α->Prop) (v:V) (as:List α):Prop:=∃a xs,v=.ref a/\SqT K H a xs/\xs.length=as.length/\∀(j:Nat) (x:V) (y:α),xs[j]?=some x->as[j]?=some y->P x y
noncomputable def EqP (K:Frag) (H:Hp) (n:Nat) {α:Type} [DecidableEq α] (P:V->α->Prop):Prop:=∀x y a b,P x a->P y b->EqD K H n x y (decide (a=b))
theorem Zcf {K:Frag}{H:Hp}{n:Nat}:EqP K H n IsI:=by
 rintro x y a b rfl rfl
 have:=EqD.flat (K:=K) (H:=H) (n:=n) (x:=.int a) (y:=.int b) rfl rfl
 have e:eqV (.int a) (.int b)=decide (a=b):=by simp[eqV,Bool.beq_eq_decide_eq]
 rw[<-e];exact this
theorem all_eq {α:Type} [DecidableEq α] (as bs:List α) (h:as.length=bs.length):(List.range as.length).all (λj=>decide (as[j]?=bs[j]?))=decide (as=bs):=by
 rw[Bool.eq_iff_iff,List.all_eq_true,decide_eq_true_iff]
 constructor
 ·intro q
  refine List.ext_getElem? λj=>?_
  by_cases hj:j<as.length
  ·simpa using q j (YC.mpr hj)
  ·rw[List.getElem?_eq_none (by omega),List.getElem?_eq_none (by omega)]
 ·rintro rfl j _;simp
theorem Zcg {K:Frag}{H:Hp}{n:Nat}{α:Type} [DecidableEq α] {P:V->α->Prop} (h:EqP K H n P):EqP K H (n+1) (IsL K H P):=by
 rintro x y as bs ⟨a,xs,rfl,hx,lx,px⟩ ⟨b,ys,rfl,hy,ly,py⟩
 by_cases hl:as.length=bs.length
 ·rw[<-all_eq as bs hl,<-lx]
  refine .lst _ hx hy (by omega) λj x y h1 h2=>?_
  have j1:=(Yn.mp h1).1
  have j2:=(Yn.mp h2).1
  have ha:as[j]?=some as[j]:=Yb (by omega)
  have hb:bs[j]?=some bs[j]:=Yb (by omega)
  have:=h x y _ _ (px j _ _ h1 ha) (py j _ _ h2 hb)
  rw[ha,hb]
  simpa using this
 ·have e:decide (as=bs)=false:=by simp;intro z;exact hl (congrArg List.length z)
  rw[e]
  exact .len hx hy (by omega)
theorem ZnR {K:Frag}{H:Hp}{n:Nat}{α:Type} [DecidableEq α] {P:V->α->Prop} (h:EqP K H n P):EqP K H (n+1) (IsT K H P):=by
 rintro x y as bs ⟨a,xs,rfl,hx,lx,px⟩ ⟨b,ys,rfl,hy,ly,py⟩
 have key:=EqD.tup (K:=K) (H:=H) (n:=n) (λj=>decide (as[j]?=bs[j]?)) hx hy λj x y h1 h2=>by
  have j1:=(Yn.mp h1).1
  have j2:=(Yn.mp h2).1
  have ha:as[j]?=some as[j]:=Yb (by omega)
  have hb:bs[j]?=some bs[j]:=Yb (by omega)
  have:=h x y _ _ (px j _ _ h1 ha) (py j _ _ h2 hb)
  rw[ha,hb]
  simpa using this
 have e:((List.range (min xs.length ys.length)).all (λj=>decide (as[j]?=bs[j]?))&&xs.length==ys.length)=decide (as=bs):=by
  rw[lx,ly]
  by_cases hl:as.length=bs.length
  ·rw[<-hl,Nat.min_self,all_eq as bs hl];simp
  ·have e:decide (as=bs)=false:=by simp;intro z;exact hl (congrArg List.length z)
   rw[e]
   simp[hl]
 rw[e]at key
 exact key
theorem Z8 {K:Frag}{H:Hp}{a:Addr}{ns:List Int} (h:SqL K H a (ns.map V.int)):IsL K H IsI (.ref a) ns:=⟨a,_,rfl,h,by simp,λj x y h1 h2=>by
 rw[Yt,h2]at h1
 exact(Yx h1).symm⟩
theorem Zmg {K:Frag}{H:Hp}{a:Addr}{ns:List Int} (h:SqT K H a (ns.map V.int)):IsT K H IsI (.ref a) ns:=⟨a,_,rfl,h,by simp,λj x y h1 h2=>by
 rw[Yt,h2]at h1
 exact(Yx h1).symm⟩
section
variable {X:Cx}
noncomputable def tRngV (ta:TA):TE:=fun σ H Q=>ta σ H λvs H1=>∃j:Int,vs=[.int j]/\-(2 ^ 62)<=j/\j<2 ^ 62/\∀p,H1 p=none->Q (.ref p) (upd H1 p (.rng 0 j))
theorem Zk1 {a:Expr}{ta:TA}{p pos:Pos} (hg:Gl X "range") (hm:X.mg "range"=none) (ha:PA X [a] ta) (hs:starEach [a] X.env=[(false,eval a X.env)]:=by rfl):PE X (.Call (.Name "range" p) [a] [] pos) (tRngV ta):=by
 intro pins s σ H Q I h
 refine wpAny_Call_Name_kw (Zdu I hg hm boot_range (PyProof.Rows.callWith_type1 (thn (ha pos pins s σ H _ I h) λus s1 ⟨vs,H1,I1,r1,q1⟩=>?_) hs rfl))
 obtain⟨j,e,q1,q2,q⟩:=q1
 subst e
 obtain⟨u,rfl,ru⟩:=r1.one
 obtain⟨t,rfl⟩:=ru
 refine call_range_1 ⟨.ref s1.heap.objs.size,_,I1.laid (λb o e=>Ys _ e) (Ya _) ?_,rfl,q _ (I1.hok.fresh (Ya _))⟩
 exact⟨_,_,_,YD _ rfl⟩
noncomputable def rLstR:List V->Hp->VK->Prop:=λxs H Q=>∃p j,xs=[.ref p]/\H p=some (.rng 0 j)/\0<=j/\j<=1000/\∀l,H l=none->Q (.ref l) (upd H l (.lst ((List.range j.toNat).map λ(i:Nat)=>V.int (i:Int))))
theorem ZnS {g:Nat->V}{P:Nat->Value->Prop} (hP:∀i v,P i v->RelV (g i) v):∀(n:Nat) (us:List Value),us.length=n->(∀(j:Nat) (v:Value),us[j]?=some v->P j v)->Vals ((List.range n).map g) us:=by
 intro n
 induction n with
 |zero =>
  intro us hl _
  cases us with
  |nil=>exact .nil
  |cons _ _=>cases hl
 |succ n ih =>
  intro us hl h
  have hne:us≠[]:=λz=>by rw[z]at hl;cases hl
  rw[YU,YG,<-List.dropLast_concat_getLast hne]
  have hl2:us.dropLast.length=n:=by rw[List.length_dropLast,hl];rfl
  refine(ih us.dropLast hl2 λj v hj=>?_).append (.cons ?_ .nil)
  ·have hj2:=(Yn.mp hj).1
   refine h j v ?_
   rw[List.getElem?_dropLast]at hj
   split at hj
   ·exact hj
   ·cases hj
  ·refine hP n _ (h n _ ?_)
   rw[List.getLast_eq_getElem]
   rw[Yn]
   refine⟨by omega,?_⟩
   congr 1
   omega
theorem Zg0 (hc:X.calm=true):ZaI X (.type "list") rLstR:=by
 intro pins s σ H xs us Q I r h
 obtain⟨p,j,rfl,hp,h0,h1,q⟩:=h
 obtain⟨u,rfl,ru⟩:=r.one
 cases(show u=Value.ref p from ru)
 obtain⟨t,u,v,hob⟩:=(show ∃t u v,s.heap.get? p=some {cls:=.type "range",data:=.fields #[.int 0 t,.int j u,.int 1 v]}from I.hok p _ hp)
 refine call_list_range (n:=j.toNat) (I.ok.hd hc) hob (small_one (by omega) (by omega) (by omega) (by omega)) (by rw[rangeSize_one];split<;>omega) (by omega) λh' tk acc' c' kp hn hacc=>?_
 have hv:Vals ((List.range j.toNat).map λ(i:Nat)=>V.int (i:Int)) acc'.toList:=by
  exact ZnS (g:=λ(i:Nat)=>V.int (i:Int)) (P:=λ(i:Nat) v=>∃t,v=.int (0+(i:Int)*1) t) (λi v h=>by obtain⟨t,e⟩:=h;exact⟨t,by rw[e];simp⟩) _ _ (by rw[YI];exact hacc.1) λk v hk=>hacc.2 k v (by simpa using hk)
 refine⟨.ref s.heap.objs.size,_,I.laid kp (Ya _) ?_,rfl,q _ (I.hok.fresh (Ya _))⟩
 exact⟨by rw[Yc,Y2];exact Yh (show j.toNat<=1000 by omega) (by decide),_,c',hv,hn⟩
noncomputable def rAll (K:Frag):List V->Hp->VK->Prop:=λxs H Q=>∃(p:Addr) (bs:List Bool),xs=[.ref p]/\SqL K H p (bs.map V.bl)/\Q (.bl (bs.all id)) H
theorem all_ix (bs:List Bool):(List.range bs.length).all (λi=>bs.getD i false)=bs.all id:=by
 rw[Bool.eq_iff_iff,List.all_eq_true,List.all_eq_true]
 constructor
 ·intro h x hx
  obtain⟨j,hj,rfl⟩:=List.getElem_of_mem hx
  have:=h j (YC.mpr hj)
  simpa[Yj,hj]using this
 ·intro h j hj
  have hj':=YC.mp hj
  have:=h _ (YA hj')
  simpa[Yj,hj']using this
theorem ZiB {prog:Program}{w:World}{A:Around}{bs:List Bool}{its:List Value} (r:Vals (bs.map V.bl) its):TruthOf prog w A (λi v=>its.toArray[i]?=some v) (λi=>bs.getD i false):=by
 intro i v s Q E hv hq
 have hv':its[i]?=some v:=by simpa using hv
 have hl:=r.length
 have hi:i<bs.length:=by
  have:=(Yn.mp hv').1
  rw[Yc]at hl;omega
 obtain⟨u,hu,ru⟩:=r.get (i:=i) (x:=V.bl bs[i]) (by rw[Yt,Yb hi];rfl)
 rw[hv']at hu
 cases hu
 cases ru
 refine wpAny_truthy_bool ?_
 simpa[Yj,hi]using hq
theorem Ze3 {K:Frag} (hK:X.K=K) (hc:X.calm=true):ZaI X (.builtin "all") (rAll K):=by
 subst hK
 intro pins s σ H xs us Q I r h
 obtain⟨p,bs,rfl,hp,q⟩:=h
 obtain⟨u,rfl,ru⟩:=r.one
 cases(show u=Value.ref p from ru)
 obtain⟨its,r',pl,hz⟩:=I.list hp
 have hl:=r'.length
 refine call_all_walk (wpAny_pyIter_list pl.isList ?_)
 have hne:p≠s.heap.objs.size:=by obtain⟨o,e,_⟩:=pl.isList;exact Yv (Yi e)
 refine⟨s.heap.objs.size,_,_,_,_,_,λi=>bs.getD i false,rfl,Walks.list (A:=X.A.in1) (show X.A.in1.handled=none from I.ok.hd hc) _ p hne its.toArray,⟨⟨_,YD _ rfl,rfl,rfl⟩,pl.isList.push _⟩,ZiB r',λh' tk kp=>?_⟩
 have e1:its.toArray.size=bs.length:=by rw[Ym];rw[Yc]at hl;omega
 rw[e1,all_ix]
 exact⟨.bl _,H,I.kept (t':=tk) λb o e=>kp b o (by simp;exact Yv (Yi e)) (Ys _ e),rfl,q⟩
noncomputable def rIxQ (K:Frag):R2:=λx y H Q=>∃p xs i v,x=.ref p/\y=.int i/\(SqL K H p xs\/SqT K H p xs)/\atI xs i=some v/\Q v H
theorem ix_q {K:Frag} (hK:X.K=K):IxR X (rIxQ K):=by
 subst hK
 intro value slice pins s σ H x y v u Q I rx ry h hs
 refine(ZL.or Z3) (value:=value) (slice:=slice) pins s σ H x y v u Q I rx ry ?_ hs
 obtain⟨p,xs,i,v,rfl,rfl,hq,ha,q⟩:=h
 rcases hq with hq|hq
 ·exact .inl ⟨p,xs,i,v,rfl,rfl,hq,ha,q⟩
 ·exact .inr ⟨p,xs,i,v,rfl,rfl,hq,ha,q⟩
theorem ZhU:bootBuiltins "all"=some (.builtin "all"):=by decide +kernel
end
noncomputable def ZbG (f:Nat->Int) (a b p:Nat):Prop:=a<=p/\p<=b/\(∀q,a<=q->q<p->f p<f q)/\∀q,p<q->q<=b->f p<=f q
theorem ZbG.unique {f:Nat->Int}{a b p q:Nat} (h:ZbG f a b p) (k:ZbG f a b q):p=q:=by
 obtain⟨h1,h2,h3,h4⟩:=h
 obtain⟨k1,k2,k3,k4⟩:=k
 rcases Nat.lt_trichotomy p q with z|z|z
 ·have:=k3 p h1 z
  have:=h4 q z k2
  omega
 ·exact z
 ·have:=h3 q k1 z
  have:=k4 p z h2
  omega
theorem ZbG.join {f:Nat->Int}{a m a' b p q:Nat} (h:ZbG f a m p) (k:ZbG f a' b q) (h1:a<=a') (h2:a'<=m+1) (h3:m<=b):ZbG f a b (if f q<f p then q else p):=by
 obtain⟨p1,p2,p3,p4⟩:=h
 obtain⟨q1,q2,q3,q4⟩:=k
 have pm:∀r,a<=r->r<=m->f p<=f r:=λr r1 r2=>by
  rcases Nat.lt_trichotomy r p with z|z|z
  ·exact Int.le_of_lt (p3 r r1 z)
  ·rw[z];exact Int.le_refl _
  ·exact p4 r z r2
 have qm:∀r,a'<=r->r<=b->f q<=f r:=λr r1 r2=>by
  rcases Nat.lt_trichotomy r q with z|z|z
  ·exact Int.le_of_lt (q3 r r1 z)
  ·rw[z];exact Int.le_refl _
  ·exact q4 r z r2
 split
 ·rename_i hlt
  refine⟨by omega,q2,λr r1 r2=>?_,λr r1 r2=>qm r (by omega) r2⟩
  by_cases z:a'<=r
  ·exact q3 r z r2
  ·have:=pm r r1 (by omega);omega
 ·rename_i hle
  refine⟨p1,by omega,p3,λr r1 r2=>?_⟩
  by_cases z:r<=m
  ·exact p4 r r1 z
  ·have:=qm r (by omega) r2;omega
noncomputable def ZC (f:Nat->Int) (a:Nat):Nat->Nat
 |0=>a
 |c+1=>if f (a+c+1)<f (ZC f a c)then a+c+1 else ZC f a c
theorem Zhq (f:Nat->Int) (a:Nat):ZbG f a a a:=⟨Ya _,Ya _,λq h1 h2=>by omega,λq h1 h2=>by omega⟩
theorem ZaJ (f:Nat->Int) (a c:Nat):ZbG f a (a+c) (ZC f a c):=by
 induction c with
 |zero=>exact Zhq f a
 |succ c ih =>
  rw[ZC]
  exact ih.join (Zhq f (a+c+1)) (by omega) (by omega) (by omega)
noncomputable def nth (ns:List Int) (i:Nat):Int:=ns.getD i 0
theorem Zby {ns:List Int}{i:Nat} (h:i<ns.length):atI (ns.map V.int) (i:Int)=some (V.int (nth ns i)):=by
 rw[ZhR rfl (by simpa using h)]
 simp[nth,Yj,h]
theorem Zeg (f:Nat->Int) (a c:Nat):a<=ZC f a c/\ZC f a c<=a+c:=⟨(ZaJ f a c).1,(ZaJ f a c).2.1⟩
theorem Zf.seqT {K:Frag}{H H':Hp}{a:Addr}{xs:List V} (e:Zf H H') (h:SqT K H a xs):SqT K H' a xs:=by
 rcases h with(h|⟨o,h⟩)|h
 ·exact .inl (.inl (e _ _ h))
 ·exact .inl (.inr ⟨o,e _ _ h⟩)
 ·exact .inr h
theorem Zf.q {K:Frag}{H H':Hp}{a:Addr}{xs:List V} (e:Zf H H') (h:SqL K H a xs\/SqT K H a xs):SqL K H' a xs\/SqT K H' a xs:=h.imp e.seq e.seqT
theorem Exc.trans {p:Addr}{H H1 H2:Hp} (a:Exc p H H1) (b:Exc p H1 H2):Exc p H H2:=λc o n z=>b c o n (a c o n z)
theorem Exc.free {p q:Addr}{H H':Hp} (e:Exc p H H') (n:q≠p) (h:H' q=none):H q=none:=by
 cases z:H q with
 |none=>rfl
 |some o=>rw[e q o n z]at h;cases h
theorem Exc.ZcP {p q:Addr}{H H':Hp}{o:HO} (e:Exc p H H') (h:H q=none):Exc p H (L2.upd H' q o):=λb u n z=>by
 rw[Zq (ZV z h)];exact e b u n z
theorem Exc.same {p:Addr}{H H1 H2:Hp} (a:Exc p H H1) (s:Zf H1 H2):Exc p H H2:=a.trans s.Zho
noncomputable def Zch (H0 H:Hp) (l:Addr) (rs:List (List Int)):Prop:=∃as:List Addr,H l=some (.lst (as.map V.ref))/\l∉as/\as.length=rs.length/\(∀i (h1:i<as.length) (h2:i<rs.length),H as[i]=some (.lst (rs[i].map V.int)))/\H0 l=none/\∀a∈as,H0 a=none
theorem Zch.rows {H0 H:Hp}{l:Addr}{rs:List (List Int)} (R:Zch H0 H l rs):Rows H l rs:=by
 obtain⟨as,h1,h2,h3,h4,_⟩:=R
 exact⟨as,h1,h2,h3,h4⟩
theorem Zch.same {H0 H H':Hp}{l:Addr}{rs:List (List Int)} (R:Zch H0 H l rs) (s:Zf H H'):Zch H0 H' l rs:=by
 obtain⟨as,e,n,hl,h,z⟩:=R
 exact⟨as,s _ _ e,n,hl,λi h1 h2=>s _ _ (h i h1 h2),z⟩
theorem Zch.push {H0 H:Hp}{l p:Addr}{rs:List (List Int)}{r:List Int}{as:List Addr} (e:H l=some (.lst (as.map V.ref))) (n:l∉as) (hl:as.length=rs.length) (h:∀i (h1:i<as.length) (h2:i<rs.length),H as[i]=some (.lst (rs[i].map V.int)))
  (z1:H0 l=none) (z2:∀a∈as,H0 a=none) (hp:H p=some (.lst (r.map V.int))) (np:p≠l) (zp:H0 p=none):Zch H0 (upd H l (.lst (as.map V.ref++[.ref p]))) l (rs++[r]):=by
 obtain⟨bs,q1,q2,q3,q4⟩:=Rows.push e n hl h hp np
 rw[Zb]at q1
 have e2:bs=as++[p]:=by
  have q1':(as++[p]).map V.ref=bs.map V.ref:=by
   have:=HO.lst.inj (Yx q1)
   simpa using this
  have inj:∀(u v:List Addr),u.map V.ref=v.map V.ref->u=v:=by
   intro u
   induction u with
   |nil=>intro v hv;cases v with|nil=>rfl|cons _ _=>cases hv
   |cons x u ih =>
    intro v hv
    cases v with
    |nil=>cases hv
    |cons y v =>
     rw[YS,YS]at hv
     injection hv with h1 h2
     injection h1 with h1
     rw[h1,ih v h2]
  exact(inj _ _ q1').symm
 subst e2
 refine⟨as++[p],Zb.trans (by simp),q2,q3,q4,z1,λa ha=>?_⟩
 rcases Yl.mp ha with ha|ha
 ·exact z2 a ha
 ·have:a=p:=by simpa using ha
  rw[this];exact zp
theorem Zch.nil {H:Hp}{p:Addr} (hp:H p=none):Zch H (upd H p (.lst [])) p []:=⟨[],Zb,by simp,rfl,λi h1 h2=>absurd h1 (by simp),hp,λa ha=>nomatch ha⟩
section
variable {X:Cx}{a b c d:Expr}{ta tb tc td:TE}{pos:Pos}
noncomputable def ZhV (r r' r'':R2) (ta tb tc td:TE):TE:=fun σ H Q=>ta σ H λx H1=>tb σ H1 λy H2=>r x y H2 λz H3=>∃k,z=.bl k /\
 (if k=true then tc σ H3 λy' H4=>r' y y' H4 λz' H5=>∃k',z'=.bl k'/\(if k'=true then td σ H5 λy'' H6=>r'' y' y'' H6 Q else Q (.bl false) H5)else Q (.bl false) H3)
theorem Zk2 {op op' op'':CmpOp}{r r' r'':R2} (ho:OpR X (compareOp op) r) (ho':OpR X (compareOp op') r') (ho'':OpR X (compareOp op'') r'') (ha:PE X a ta) (hb:PE X b tb) (hc:PE X c tc) (hd:PE X d td)
  (hm:lastMarks [op,op',op''] [b,c,d]=false:=by with_unfolding_all rfl):PE X (.Compare a [op,op',op''] [b,c,d] pos) (ZhV r r' r'' ta tb tc td):=by
 intro pins s σ H Q I h
 refine Compare_chain (thn (ha pins s σ H _ I h) λv s1 ⟨x,H1,I1,r1,q1⟩=>chain_link (thn (hb pins s1 σ H1 _ I1 q1) λu s2 ⟨y,H2,I2,r2,q2⟩ =>
  thn (ho pins s2 σ H2 x y v u _ I2 r1 r2 q2) λd s3 ⟨z,H3,I3,r3,k,e,q3⟩=>?_)) hm
 subst e
 cases r3
 refine wpAny_truthy_bool ?_
 cases k with
 |false=>exact ite_ff ⟨.bl false,H3,I3,rfl,q3⟩
 |true =>
  refine ite_tt (chain_link (thn (hc pins s3 σ H3 _ I3 q3) λu' s4 ⟨y',H4,I4,r4,q4⟩=>thn (ho' pins s4 σ H4 y y' u u' _ I4 r2 r4 q4) λd' s5 ⟨z',H5,I5,r5,k',e',q5⟩=>?_))
  subst e'
  cases r5
  refine wpAny_truthy_bool ?_
  cases k' with
  |false=>exact ite_ff ⟨.bl false,H5,I5,rfl,q5⟩
  |true=>exact ite_tt (chain_last (thn (hd pins s5 σ H5 _ I5 q5) λw' s6 ⟨z'',H6,I6,r6,q6⟩=>ho'' pins s6 σ H6 y' z'' u' w' Q I6 r4 r6 q6))
theorem Zk3 {op op' op'':CmpOp}{r r' r'':R2} (ho:OpR X (compareOp op) r) (ho':OpR X (compareOp op') r') (ho'':OpR X (compareOp op'') r'') (ha:PE X a ta) (hb:PE X b tb) (hc:PE X c tc) (hd:PE X d td)
  (hm:lastMarks [op,op',op''] [b,c,d]=false:=by with_unfolding_all rfl):PT X (.Compare a [op,op',op''] [b,c,d] pos) (Zkd (ZhV r r' r'' ta tb tc td)):=by
 intro pins s σ H Q I h
 refine isTrue_chain (thn (ha pins s σ H _ I h) λv s1 ⟨x,H1,I1,r1,q1⟩=>test_link (thn (hb pins s1 σ H1 _ I1 q1) λu s2 ⟨y,H2,I2,r2,q2⟩ =>
  thn (ho pins s2 σ H2 x y v u _ I2 r1 r2 q2) λd s3 ⟨z,H3,I3,r3,k,e,q3⟩=>?_)) hm
 subst e
 cases r3
 refine wpAny_truthy_bool ?_
 cases k with
 |false =>
  obtain⟨k',e',q'⟩:=q3
  cases e'
  exact ite_ff ⟨H3,I3,q'⟩
 |true =>
  refine ite_tt (test_link (thn (hc pins s3 σ H3 _ I3 q3) λu' s4 ⟨y',H4,I4,r4,q4⟩=>thn (ho' pins s4 σ H4 y y' u u' _ I4 r2 r4 q4) λd' s5 ⟨z',H5,I5,r5,k',e',q5⟩=>?_))
  subst e'
  cases r5
  refine wpAny_truthy_bool ?_
  cases k' with
  |false =>
   obtain⟨k2,e2,q'⟩:=q5
   cases e2
   exact ite_ff ⟨H5,I5,q'⟩
  |true =>
   refine ite_tt (test_last (thn (hd pins s5 σ H5 _ I5 q5) λw' s6 ⟨z'',H6,I6,r6,q6⟩=>thn (ho'' pins s6 σ H6 y' z'' u' w' _ I6 r4 r6 q6) λd'' s7 ⟨z2,H7,I7,r7,k2,e2,q7⟩=>?_))
   subst e2
   cases r7
   exact wpAny_truthy_bool ⟨H7,I7,q7⟩
noncomputable def iSeq (K:Frag) (tl:TE):TI:=fun σ H R=>tl σ H λx H1=>∃a,x=.ref a/\(((∃xs,SqL K H1 a xs)/\R (Itl K a) H1)\/((∃xs,SqT K H1 a xs)/\R (Itt K a) H1))
theorem ZhW {tg l:Expr}{tl:TE}{K:Frag} (hK:X.K=K) (hl:PE X l tl):PI X tg l (iSeq K tl):=by
 subst hK
 intro pins s σ H R I h
 refine thn (hl pins s σ H _ I h) λv s1 ⟨x,H1,I1,r1,q1⟩=>?_
 obtain⟨a,e,q1⟩:=q1
 subst e
 cases r1
 rcases q1 with⟨⟨xs,hq⟩,q⟩|⟨⟨xs,hq⟩,q⟩
 ·obtain⟨its,rv,p,hz⟩:=I1.list hq
  refine wpAny_pyIter_list p.isList ?_
  refine⟨s1.heap.objs.size,[s1.heap.objs.size],_,_,H1,rfl,I1.kept (t':=s1.toks) λb o e=>Ys _ e,Zhg a _,⟨_,YD _ rfl,rfl,rfl⟩,λb hb=>?_,q⟩
  have e:b=s1.heap.objs.size:=by simpa using hb
  subst e
  exact I1.Zjr (Ya _) (I1.hok.fresh (Ya _))
 ·obtain⟨its,rv,p,hz⟩:=I1.tuple hq
  refine wpAny_pyIter_tuple (show s1.heap.IsTuple a its.toArray from p) ?_
  refine⟨s1.heap.objs.size,[s1.heap.objs.size],_,_,H1,rfl,I1.kept (t':=s1.toks) λb o e=>Ys _ e,Zge a _,⟨_,YD _ rfl,rfl,rfl⟩,λb hb=>?_,q⟩
  have e:b=s1.heap.objs.size:=by simpa using hb
  subst e
  exact I1.Zjr (Ya _) (I1.hok.fresh (Ya _))
end
noncomputable def CA (n:Nat) (Pv:Nat->List V->Hp->Prop) (i m:Nat) (acc:List V) (H:Hp):Prop:=m=n-i/\i<=n/\acc.length<=i/\Pv i acc H
theorem CA.take {n:Nat}{Pv:Nat->List V->Hp->Prop}{i:Nat}{acc:List V}{v:V}{H:Hp} (hi:i<n) (hl:acc.length<=i) (h:Pv (i+1) (acc++[v]) H):∃m',m'<n-i/\CA n Pv (i+1) m' (acc++[v]) H:=⟨n-(i+1),by omega,rfl,hi,by simp;omega,h⟩
theorem Zmh {J:It}{n:Nat}{H1:Hp}{g:TG}{tt:TT}{te:TE}{σ0:St}{Q:VK} (Pv:Nat->List V->Hp->Prop) (hn:n<sizeLine) (h0:Pv 0 [] H1) (hgo:∀i acc H,Pv i acc H->i<n->J.go i H) (hstop:∀acc H,Pv n acc H->J.stop n H)
  (hb:∀i x acc H H',i<n->acc.length<=i->Pv i acc H->J.yld i H x H'->g x σ0 H' fun σ2 H2=>tt σ2 H2 λb H3=>if b=true then te σ2 H3 λv H4=>∃m',m'<n-i/\CA n Pv (i+1) m' (acc++[v]) H4 else ∃m',m'<n-i/\CA n Pv (i+1) m' acc H3)
  (hk:∀l acc H',Pv n acc H'->acc.length<=n->H' l=none->Q (.ref l) (upd H' l (.lst acc))):ZdB J g tt te σ0 Q H1:=by
 refine⟨CA n Pv,⟨n,rfl,Yr _,Ya _,h0⟩,?_⟩
 rintro i m acc H ⟨rfl,hi,hl,p⟩
 by_cases h:i<n
 ·exact .inr ⟨hgo i acc H p h,by omega,λx H' y=>hb i x acc H H' h hl p y⟩
 ·have e:i=n:=by omega
  subst e
  exact .inl ⟨hstop acc H p,by omega,λq hq=>hk q acc H p hl hq⟩
section
variable {X:Cx}
noncomputable def Zkq:V->List V->Hp->VK->Prop:=λx vs H Q=>∃l xs i y,x=.ref l/\vs=[.int i,y]/\H l=some (.lst xs)/\0<=i/\i<2 ^ 62/\xs.length<sizeLine/\Q .non (upd H l (.lst (xs.take i.toNat++y::xs.drop i.toNat)))
theorem Vals.takeN:∀{xs:List V}{us:List Value} (k:Nat),Vals xs us->Vals (xs.take k) (us.take k)
 |_,_,0,_=>by simp;exact .nil
 |_,_,_+1,.nil=>.nil
 |_,_,k+1,.cons r h=>.cons r (Vals.takeN k h)
theorem Vals.dropN:∀{xs:List V}{us:List Value} (k:Nat),Vals xs us->Vals (xs.drop k) (us.drop k)
 |_,_,0,h=>by simpa using h
 |_,_,_+1,.nil=>.nil
 |_,_,k+1,.cons _ h=>Vals.dropN k h
theorem Zfs:MtM X "list.insert" Zkq:=by
 intro pins s σ H x vs v us Q I rx rv h
 obtain⟨l,xs,i,y,rfl,rfl,hH,h1,h2,hz,q⟩:=h
 cases rx
 obtain⟨u,u2,rfl,ru,ru2⟩:=rv.two
 obtain⟨t,rfl⟩:=ru
 obtain⟨z,its,n,r,hl,e⟩:=I.Ziv hH
 have hf:¬ (!Builtin.List.listFitsIndex i)=true:=by
  unfold Builtin.List.listFitsIndex
  have a1:decide (-(2 ^ 63:Int)<=i)=true:=Yo (by omega)
  have a2:decide (i<(2 ^ 63:Int))=true:=Yo (by omega)
  rw[a1,a2];decide
 refine call_meets F.slot_list_insert ⟨_,e,rfl⟩ F.entry_list_insert (F.args_list_insert_3 _ _ _) (AutoListH.list_insert_list_int_val_1 l its.toArray n i t u2 hf (by rw[Ym];omega)) ⟨e,?_⟩
 refine⟨.non,_,I.lset (its':=its.take i.toNat++u2::its.drop i.toNat) (ys:=xs.take i.toNat++y::xs.drop i.toNat) hH e ?_ ((r.takeN _).append (.cons ru2 (r.dropN _))) ?_,rfl,q⟩
 ·show((its.toArray.extract 0 (if i<0 then (i+((its.toArray.size:Nat):Int)).toNat else min i.toNat its.toArray.size)).push u2++its.toArray.extract (if i<0 then (i+((its.toArray.size:Nat):Int)).toNat else min i.toNat its.toArray.size))=_
  rw[Ye (by omega)]
  have e1:its.take (min i.toNat its.length)=its.take i.toNat:=by
   by_cases hh:i.toNat<=its.length
   ·rw[Nat.min_eq_left hh]
   ·rw[Nat.min_eq_right (by omega),List.take_of_length_le (by omega),List.take_of_length_le (by omega)]
  have e2:its.drop (min i.toNat its.length)=its.drop i.toNat:=by
   by_cases hh:i.toNat<=its.length
   ·rw[Nat.min_eq_left hh]
   ·rw[Nat.min_eq_right (by omega),List.drop_of_length_le (by omega),List.drop_of_length_le (by omega)]
  apply Array.ext'
  simp[e1,e2]
  exact List.take_of_length_le (by rw[YX];omega)
 ·rw[YJ,YN,YW,YX];omega
noncomputable def Zmi (K:Frag):V->List V->Hp->VK->Prop:=λx vs H Q=>∃(l:Addr) (ns:List Int) (k:Int),x=.ref l/\vs=[.int k]/\SqL K H l (ns.map V.int)/\ns.length<=100000/\k∈ns/\Q (.int (ns.idxOf k:Nat)) H
theorem Zmj {K:Frag} (hK:X.K=K):MtM X "list.index" (Zmi K):=by
 subst hK
 intro pins s σ H x vs v us Q I rx rv h
 obtain⟨l,ns,k,rfl,rfl,hH,hz,hk,q⟩:=h
 cases rx
 obtain⟨u,rfl,ru⟩:=rv.one
 obtain⟨t,rfl⟩:=ru
 obtain⟨its,r,pl,_⟩:=I.list hH
 have hi:IntsAre its ns:=intsAre_of r
 have hlen:=r.length
 rw[Yc]at hlen
 obtain⟨⟨cls,dd,data,sl⟩,ho,hc,n,hd⟩:=pl.isList
 simp only at hc hd
 subst hc hd
 have hj:ns.idxOf k<ns.length:=List.idxOf_lt_length_iff.mpr hk
 refine call_meets F.slot_list_index ⟨_,ho,rfl⟩ F.entry_list_index (F.args_list_index_2 _ _)
  (SeqAt.list_indexAt l its.toArray n dd sl (.int k t) (isInt k) (ns.idxOf k) (by rw[Ym];omega) (by omega) ?_ ?_) ⟨ho,λy hy=>(eq_isInt k t hi y (by simpa using hy)).at _ _,⟨.int _,H,I.tok _,⟨_,rfl⟩,q⟩⟩
 ·show isInt k its[ns.idxOf k]=true
  rw[isInt_at k hi _ (by omega) hj]
  simpa using List.getElem_idxOf hj
 ·intro j hjs hlt
  show isInt k its[j]=false
  rw[isInt_at k hi j (by simpa using hjs) (by omega)]
  exact ne_of_lt_idxOf hlt _
end
noncomputable def rIntB:List V->Hp->VK->Prop:=λxs H Q=>∃k,xs=[.bl k]/\Q (.int (if k=true then 1 else 0)) H
theorem Zk4 {X:Cx}:ZaI X (.type "int") rIntB:=λpins s σ H xs us Q I r h=>ZkK pins s σ H xs us Q I r (.inr h)
theorem Zkr (xs:List V) (a b:Nat) (h1:a<=b) (h2:b<=xs.length):ZbH xs (some (a:Int)) (some (b:Int))=(xs.drop a).take (b-a):=by
 unfold ZbH HT.sIx
 have e1:min a xs.length=a:=Nat.min_eq_left (by omega)
 have e2:min b xs.length=b:=Nat.min_eq_left h2
 simp[e1,e2]
 rw[Ye (by omega),Ye (by omega)]
theorem ZnT {ns:List Int}{a c:Nat} (h:a+c<ns.length) {m:Int} (h1:m∈(ns.drop a).take (c+1)) (h2:∀x∈(ns.drop a).take (c+1),m<=x):a+((ns.drop a).take (c+1)).idxOf m=ZC (nth ns) a c:=by
 have hl:((ns.drop a).take (c+1)).length=c+1:=by rw[YW,YX];omega
 have hj:((ns.drop a).take (c+1)).idxOf m<((ns.drop a).take (c+1)).length:=List.idxOf_lt_length_iff.mpr h1
 have at':∀j,j<c+1->((ns.drop a).take (c+1))[j]?=some (nth ns (a+j)):=λj hj=>by
  rw[List.getElem?_take,Yd hj,List.getElem?_drop,nth,Yj,Yb (by omega)];rfl
 have em:nth ns (a+((ns.drop a).take (c+1)).idxOf m)=m:=by
  have:=at' _ (by omega:((ns.drop a).take (c+1)).idxOf m<c+1)
  rw[Yb hj,List.getElem_idxOf hj]at this
  exact(Yx this).symm
 have mem:∀j,j<c+1->nth ns (a+j)∈(ns.drop a).take (c+1):=λj hj=>List.mem_of_getElem? (at' j hj)
 refine ZbG.unique (f:=nth ns) (a:=a) (b:=a+c) ⟨by omega,by omega,λq q1 q2=>?_,λq q1 q2=>?_⟩ (ZaJ _ _ _)
 ·rw[em]
  have e1:a+(q-a)=q:=by omega
  have k1:=h2 _ (mem (q-a) (by omega))
  rw[e1]at k1
  have hlt:q-a<((ns.drop a).take (c+1)).idxOf m:=by omega
  have ne:=List.not_of_lt_findIdx hlt
  have k2:=at' (q-a) (by omega)
  rw[Yb (by omega),e1]at k2
  have k3:=Yx k2
  rw[k3]at ne
  have:¬ (nth ns q=m):=by simpa using ne
  omega
 ·rw[em]
  have e1:a+(q-a)=q:=by omega
  have k1:=h2 _ (mem (q-a) (by omega))
  rw[e1]at k1;exact k1
noncomputable def Zz (H:Hp) (p:Addr):Prop:=∃x:Int,H p=some (.lst [.int x])/\0<=x
theorem Zz.ne {H:Hp}{p q:Addr} (P:Zz H p) (h:H q=none):q≠p:=by
 obtain⟨x,e,_⟩:=P
 exact(ZV e h).symm
theorem Zz.same {H H':Hp}{p:Addr} (P:Zz H p) (s:Zf H H'):Zz H' p:=by
 obtain⟨x,e,r⟩:=P
 exact⟨x,s _ _ e,r⟩
theorem Zz.upd {H:Hp}{p q:Addr}{o:HO} (P:Zz H p) (h:H q=none):Zz (L2.upd H q o) p:=P.same ((Zf.refl H).upd h)
theorem Zz.ZcP {H:Hp}{p q:Addr}{o:HO} (P:Zz H p) (h:q≠p):Zz (L2.upd H q o) p:=by
 obtain⟨x,e,r⟩:=P
 exact⟨x,by rw[Zq h.symm];exact e,r⟩
theorem cp50:ZhF 10 50:=by unfold ZhF;decide
end L2
namespace L2
noncomputable def Zac (f:Nat->Int) (p q:Nat):Prop:=q<p/\f q<=f p/\∀r,q<r->r<p->f p<f r
noncomputable def ZaO (f:Nat->Int) (n p r:Nat):Prop:=p<r/\r<n/\f r<f p/\∀s,p<s->s<r->f p<=f s
noncomputable def Zcy (f:Nat->Int) (p:Nat):Prop:=∀q,q<p->f p<f q
noncomputable def ZcY (f:Nat->Int) (n p:Nat):Prop:=∀r,p<r->r<n->f p<=f r
noncomputable def ZN (f:Nat->Int) (n p:Nat) (e:Int):Prop :=
 (Zcy f p/\ZcY f n p/\e=-1)\/(∃q,Zac f p q/\ZcY f n p/\e=q)\/(∃r,Zcy f p/\ZaO f n p r/\e=r) \/
 ∃q r,Zac f p q/\ZaO f n p r/\e=if f q<=f r then (r:Int)else q
theorem ZiC {P:Nat->Prop} [DecidablePred P] (i:Nat):∀d r,r+d=i->P r->∃t,r<=t/\t<=i/\P t/\∀s,t<s->s<=i->¬ P s:=by
 intro d
 induction d with
 |zero=>intro r e h;exact⟨r,Ya _,by omega,h,λs h1 h2=>by omega⟩
 |succ d ih =>
  intro r e h
  by_cases hx:∃t,r<t/\t<=i/\P t
  ·obtain⟨t,h1,h2,h3⟩:=hx
   -- step to r+1 by cases
   by_cases h4:P (r+1)
   ·obtain⟨u,u1,u2,u3,u4⟩:=ih (r+1) (by omega) h4
    exact⟨u,by omega,u2,u3,u4⟩
   ·-- go on from the next one
    have gen:∀k t,t+k=i->r<t->P t->∃u,r<=u/\u<=i/\P u/\∀s,u<s->s<=i->¬ P s:=by
     intro k
     induction k with
     |zero=>intro t e h1 h3;exact⟨t,by omega,by omega,h3,λs h1 h2=>by omega⟩
     |succ k ihk =>
      intro t e h1 h3
      by_cases hy:∃s,t<s/\s<=i/\P s
      ·-- the last one of the rest
       have key:∀m,m<=i->(∃s,t<s/\s<=m/\P s)->∃u,t<u/\u<=m/\P u/\∀s,u<s->s<=m->¬ P s:=by
        intro m
        induction m with
        |zero=>rintro _ ⟨s,h5,h6,_⟩;omega
        |succ m ihm =>
         rintro hm ⟨s,h5,h6,h7⟩
         by_cases hp:P (m+1)
         ·exact⟨m+1,by omega,Ya _,hp,λs h1 h2=>by omega⟩
         ·have hs:s<=m:=by
           rcases Nat.lt_or_ge m s with z|z
           ·have:s=m+1:=by omega
            rw[this]at h7;exact absurd h7 hp
           ·exact z
          obtain⟨u,u1,u2,u3,u4⟩:=ihm (by omega) ⟨s,h5,hs,h7⟩
          refine⟨u,u1,by omega,u3,λs' h1 h2=>?_⟩
          by_cases e:s'=m+1
          ·rw[e];exact hp
          ·exact u4 s' h1 (by omega)
       obtain⟨u,u1,u2,u3,u4⟩:=key i (Ya _) hy
       exact⟨u,by omega,u2,u3,u4⟩
      ·exact⟨t,by omega,by omega,h3,λs h1 h2 h5=>hy ⟨s,h1,h2,h5⟩⟩
    exact gen (i-t) t (by omega) h1 h3
  ·exact⟨r,Ya _,by omega,h,λs h1 h2 h3=>hx ⟨s,h1,h2,h3⟩⟩
theorem Zjx {P:Nat->Prop} [DecidablePred P] {n r:Nat} (hr:r<n) (h:P r):∃t,r<=t/\t<n/\P t/\∀s,t<s->s<n->¬ P s:=by
 obtain⟨t,h1,h2,h3,h4⟩:=ZiC (P:=P) (n-1) (n-1-r) r (by omega) h
 exact⟨t,h1,by omega,h3,λs a b=>h4 s a (by omega)⟩
noncomputable def Zeo (f:Nat->Int) (i:Nat) (sp:List Nat):Prop:=sp.Pairwise (· < ·)/\∀q,q∈sp↔q<i/\∀r,q<r->r<i->f q<=f r
theorem Zga (f:Nat->Int) (p:Nat):Zcy f p\/∃q,Zac f p q:=by
 by_cases h:∃q,q<p/\f q<=f p
 ·obtain⟨q,h1,h2⟩:=h
  obtain⟨t,_,t2,t3,t4⟩:=Zjx (P:=λq=>f q<=f p) h1 h2
  exact .inr ⟨t,t2,t3,λr a b=>by have:=t4 r a b;omega⟩
 ·exact .inl λq hq=>by
   have:¬ (f q<=f p):=λz=>h ⟨q,hq,z⟩
   omega
theorem Zk5 {f:Nat->Int}{i p q:Nat} (hp:p<i) (ho:∀r,p<r->r<i->f p<=f r) (h:Zac f p q):(∀r,q<r->r<i->f q<=f r)/\∀s,q<s->s<p->¬ ∀r,s<r->r<i->f s<=f r:=by
 obtain⟨h1,h2,h3⟩:=h
 refine⟨λr a b=>?_,λs a b z=>?_⟩
 ·rcases Nat.lt_trichotomy r p with c|c|c
  ·have:=h3 r a c;omega
  ·rw[c];exact h2
  ·have:=ho r c b;omega
 ·have:=z p b hp
  have:=h3 s a b
  omega
theorem Zgj {f:Nat->Int}{i:Nat}{A B:List Nat} (hs:Zeo f i (A++B)) (hA:∀q∈A,f q<=f i) (hB:∀q∈B,f i<f q) :
  Zeo f (i+1) (A++[i])/\ZN f (i+1) i (match A.getLast? with|some q=>(q:Int)|none=>-1)/\∀p e,p<i->ZN f i p e->ZN f (i+1) p (if B.head?=some p then (i:Int)else e):=by
 obtain⟨hso,hm⟩:=hs
 have hAB:=List.pairwise_append.mp hso
 have noNx:ZcY f (i+1) i:=λr a b=>by omega
 refine⟨⟨?_,λq=>?_⟩,?_,λp e hp he=>?_⟩
 ·refine List.pairwise_append.mpr ⟨hAB.1,List.pairwise_singleton _ _,λa ha b hb=>?_⟩
  have:b=i:=by simpa using hb
  rw[this]
  exact((hm a).mp (YF _ ha)).1
 ·rw[Yl,YK]
  constructor
  ·rintro(h|h)
   ·obtain⟨h1,h2⟩:=(hm q).mp (YF _ h)
    refine⟨by omega,λr a b=>?_⟩
    by_cases e:r=i
    ·rw[e];exact hA q h
    ·exact h2 r a (by omega)
   ·subst h;exact⟨by omega,λr a b=>by omega⟩
  ·rintro⟨h1,h2⟩
   by_cases e:q=i
   ·exact .inr e
   ·have hq:q∈A++B:=(hm q).mpr ⟨by omega,λr a b=>h2 r a (by omega)⟩
    rcases Yl.mp hq with h|h
    ·exact .inl h
    ·have:=hB q h
     have:=h2 i (by omega) (by omega)
     omega
 ·-- the elder of i
  rcases Zga f i with h|⟨q,h⟩
  ·have hA0:A=[]:=by
    cases A with
    |nil=>rfl
    |cons a r =>
     have h1:=((hm a).mp (by simp)).1
     have:=hA a (by simp)
     have:=h a h1
     omega
   rw[hA0]
   exact .inl ⟨h,noNx,rfl⟩
  ·have ho:∀r,q<r->r<i->f q<=f r:=λr a b=>by have:=h.2.2 r a b;have:=h.2.1;omega
   have hqA:q∈A:=by
    rcases Yl.mp ((hm q).mpr ⟨h.1,ho⟩)with z|z
    ·exact z
    ·have:=hB q z;have:=h.2.1;omega
   have hlast:A.getLast?=some q:=by
    have hne:A≠[]:=λz=>by rw[z]at hqA;cases hqA
    rw[List.getLast?_eq_some_getLast hne]
    congr 1
    have hl:A.getLast hne∈A:=List.getLast_mem hne
    -- q<=last,and last is not past q
    by_cases e:A.getLast hne=q
    ·exact e
    ·exfalso
     have hlt:q<A.getLast hne:=by
      have hd:=List.dropLast_concat_getLast hne
      have hq2:q∈A.dropLast:=by
       rw[<-hd]at hqA
       rcases Yl.mp hqA with z|z
       ·exact z
       ·exact absurd (by simpa using z) (Ne.symm e)
      have hp2:=hAB.1
      rw[<-hd]at hp2
      exact(List.pairwise_append.mp hp2).2.2 q hq2 _ (by simp)
     have h1:=((hm (A.getLast hne)).mp (YF _ hl)).1
     have:=h.2.2 _ hlt h1
     have:=hA _ hl
     omega
   rw[hlast]
   exact .inr (.inl ⟨q,h,noNx,rfl⟩)
 ·-- the elder of an earlier place
  have nxt:∀r,ZaO f i p r->ZaO f (i+1) p r:=λr ⟨a,b,c,d⟩=>⟨a,by omega,c,d⟩
  by_cases hop:ZcY f i p
  ·have hmem:p∈A++B:=(hm p).mpr ⟨hp,hop⟩
   by_cases hlt:f i<f p
   ·have hnx:ZaO f (i+1) p i:=⟨hp,by omega,hlt,λs a b=>hop s a b⟩
    have hpB:p∈B:=by
     rcases Yl.mp hmem with z|z
     ·have:=hA p z;omega
     ·exact z
    obtain⟨b0,Br,rfl⟩:∃b0 Br,B=b0::Br:=by
     cases B with
     |nil=>cases hpB
     |cons b0 Br=>exact⟨b0,Br,rfl⟩
    have hhead:(b0::Br).head?=some b0:=rfl
    rw[hhead]
    rcases Zga f p with hn|⟨q,hq⟩
    ·-- nothing ahead: p is the first of all
     have e0:b0=p:=by
      by_cases z:b0=p
      ·exact z
      ·exfalso
       have hpr:p∈Br:=by
        rcases Yk.mp hpB with y|y
        ·exact absurd y.symm z
        ·exact y
       have hlt2:b0<p:=(Y0.mp hAB.2.1).1 p hpr
       have:=((hm b0).mp (by simp)).2 p hlt2 hp
       have:=hn b0 hlt2
       omega
     rw[Yd (by rw[e0])]
     exact .inr (.inr (.inl ⟨i,hn,hnx,rfl⟩))
    ·obtain⟨hq1,hq2⟩:=Zk5 hp hop hq
     have hqm:q∈A++b0::Br:=(hm q).mpr ⟨Nat.lt_trans hq.1 hp,hq1⟩
     by_cases hqi:f q<=f i
     ·-- q is kept: p is the first of B
      have e0:b0=p:=by
       by_cases z:b0=p
       ·exact z
       ·exfalso
        have hpr:p∈Br:=by
         rcases Yk.mp hpB with y|y
         ·exact absurd y.symm z
         ·exact y
        have hlt2:b0<p:=(Y0.mp hAB.2.1).1 p hpr
        have hb0:=(hm b0).mp (by simp)
        have hqA:q∈A:=by
         rcases Yl.mp hqm with y|y
         ·exact y
         ·have:=hB q y;omega
        have hqb:q<b0:=hAB.2.2 q hqA b0 (by simp)
        exact hq2 b0 hqb hlt2 hb0.2
      rw[Yd (by rw[e0])]
      refine .inr (.inr (.inr ⟨q,i,hq,hnx,?_⟩))
      rw[Yd hqi]
     ·-- q goes,too: the elder stays
      have hqB:q∈b0::Br:=by
       rcases Yl.mp hqm with y|y
       ·exact absurd (hA q y) hqi
       ·exact y
      have hne:b0≠p:=by
       intro z
       subst z
       rcases Yk.mp hqB with y|y
       ·have:=hq.1;omega
       ·have:=(Y0.mp hAB.2.1).1 q y
        have:=hq.1;omega
      rw[Ye (by intro z;exact hne (Yx z))]
      have ee:e=q:=by
       rcases he with⟨h1,_,_⟩|⟨q',h1,_,h3⟩|⟨r,h1,_,_⟩|⟨q',r,_,h2,_⟩
       ·have:=h1 q hq.1;have:=hq.2.1;omega
       ·have:q'=q:=by
         rcases Nat.lt_trichotomy q' q with y|y|y
         ·have:=h1.2.2 q y hq.1;have:=hq.2.1;omega
         ·exact y
         ·have:=hq.2.2 q' y h1.1;have:=h1.2.1;omega
        rw[h3,this]
       ·have:=h1 q hq.1;have:=hq.2.1;omega
       ·have:=hop r h2.1 h2.2.1;have:=h2.2.2.1;omega
      refine .inr (.inr (.inr ⟨q,i,hq,hnx,?_⟩))
      rw[Ye hqi,ee]
   ·-- still open: not of B
    have hnn:ZcY f (i+1) p:=λr a b=>by
     by_cases z:r=i
     ·rw[z];omega
     ·exact hop r a (by omega)
    have hne:B.head?≠some p:=λz=>by
     have:p∈B:=List.mem_of_head? z
     have:=hB p this
     omega
    rw[Ye hne]
    rcases he with⟨h1,_,h3⟩|⟨q,h1,_,h3⟩|⟨r,_,h2,_⟩|⟨q,r,_,h2,_⟩
    ·exact .inl ⟨h1,hnn,h3⟩
    ·exact .inr (.inl ⟨q,h1,hnn,h3⟩)
    ·have:=hop r h2.1 h2.2.1;have:=h2.2.2.1;omega
    ·have:=hop r h2.1 h2.2.1;have:=h2.2.2.1;omega
  ·-- shut already
   have hne:B.head?≠some p:=λz=>hop ((hm p).mp (Yy _ (List.mem_of_head? z))).2
   rw[Ye hne]
   rcases he with⟨_,h2,_⟩|⟨q,_,h2,_⟩|⟨r,h1,h2,h3⟩|⟨q,r,h1,h2,h3⟩
   ·exact absurd h2 hop
   ·exact absurd h2 hop
   ·exact .inr (.inr (.inl ⟨r,h1,nxt r h2,h3⟩))
   ·exact .inr (.inr (.inr ⟨q,r,h1,nxt r h2,h3⟩))
end L2
namespace L2
open PySem PySem.Spec PyProof.Rows PySem.W
theorem Zac.unique {f:Nat->Int}{p q q':Nat} (h:Zac f p q) (k:Zac f p q'):q=q':=by
 rcases Nat.lt_trichotomy q q' with z|z|z
 ·have:=h.2.2 q' z k.1;have:=k.2.1;omega
 ·exact z
 ·have:=k.2.2 q z h.1;have:=h.2.1;omega
theorem ZaO.unique {f:Nat->Int}{n p r r':Nat} (h:ZaO f n p r) (k:ZaO f n p r'):r=r':=by
 rcases Nat.lt_trichotomy r r' with z|z|z
 ·have:=k.2.2.2 r h.1 z;have:=h.2.2.1;omega
 ·exact z
 ·have:=h.2.2.2 r' k.1 z;have:=k.2.2.1;omega
theorem Zac.no {f:Nat->Int}{p q:Nat} (h:Zac f p q) (k:Zcy f p):False:=by have:=k q h.1;have:=h.2.1;omega
theorem ZaO.no {f:Nat->Int}{n p r:Nat} (h:ZaO f n p r) (k:ZcY f n p):False:=by have:=k r h.1 h.2.1;have:=h.2.2.1;omega
theorem ZN.unique {f:Nat->Int}{n p:Nat}{e e':Int} (h:ZN f n p e) (k:ZN f n p e'):e=e':=by
 rcases h with⟨h1,h2,h3⟩|⟨q,h1,h2,h3⟩|⟨r,h1,h2,h3⟩|⟨q,r,h1,h2,h3⟩ <;>
 rcases k with⟨k1,k2,k3⟩|⟨q',k1,k2,k3⟩|⟨r',k1,k2,k3⟩|⟨q',r',k1,k2,k3⟩
 ·rw[h3,k3]
 ·exact(k1.no h1).elim
 ·exact(k2.no h2).elim
 ·exact(k1.no h1).elim
 ·exact(h1.no k1).elim
 ·rw[h3,k3,h1.unique k1]
 ·exact(h1.no k1).elim
 ·exact(k2.no h2).elim
 ·exact(h2.no k2).elim
 ·exact(k1.no h1).elim
 ·rw[h3,k3,h2.unique k2]
 ·exact(k1.no h1).elim
 ·exact(h1.no k1).elim
 ·exact(h2.no k2).elim
 ·exact(h1.no k1).elim
 ·rw[h3,k3,h1.unique k1,h2.unique k2]
noncomputable def ZR (ns:List Int) (es:List Int):Prop:=es.length=ns.length/\∀p,p<ns.length->ZN (nth ns) ns.length p (es.getD p 0)
theorem ZR.unique {ns es es':List Int} (h:ZR ns es) (k:ZR ns es'):es=es':=by
 refine List.ext_getElem (by rw[h.1,k.1]) λj h1 h2=>?_
 have hj:j<ns.length:=by rw[<-h.1];exact h1
 have:=(h.2 j hj).unique (k.2 j hj)
 simpa[Yj,h1,h2]using this
theorem ZiD {f:Nat->Int}{n p:Nat} (hp:p<n):ZN f n p
  (match ((List.range p).filter λq=>decide (f q<=f p)).getLast?,((List.range (n-(p+1))).filter λj=>decide (f (p+1+j)<f p)).head? with
   |none,none=>-1
   |none,some j=>((p+1+j:Nat):Int)
   |some q,none=>q
   |some q,some j=>if f q<=f (p+1+j)then ((p+1+j:Nat):Int)else q):=by
 have hA:(((List.range p).filter λq=>decide (f q<=f p)).getLast?=none/\Zcy f p)\/∃q,((List.range p).filter λq=>decide (f q<=f p)).getLast?=some q/\Zac f p q:=by
  induction p with
  |zero=>exact .inl ⟨rfl,λq hq=>by omega⟩
  |succ p _ =>
   generalize p+1=P
   have key:∀m,m<=P->(((List.range m).filter λq=>decide (f q<=f P)).getLast?=none/\∀q,q<m->f P<f q)\/∃q,((List.range m).filter λq=>decide (f q<=f P)).getLast?=some q/\q<m/\f q<=f P/\∀r,q<r->r<m->f P<f r:=by
    intro m
    induction m with
    |zero=>intro _;exact .inl ⟨rfl,λq hq=>by omega⟩
    |succ m ih =>
     intro hm
     rw[YU,List.filter_append]
     by_cases hle:f m<=f P
     ·refine .inr ⟨m,?_,by omega,hle,λr r1 r2=>by omega⟩
      simp[hle]
     ·have e:List.filter (λq=>decide (f q<=f P)) [m]=[]:=by simp[hle]
      rw[e,List.append_nil]
      rcases ih (by omega)with⟨i1,i2⟩|⟨q,i1,i2,i3,i4⟩
      ·refine .inl ⟨i1,λq hq=>?_⟩
       by_cases z:q=m
       ·rw[z];omega
       ·exact i2 q (by omega)
      ·refine .inr ⟨q,i1,by omega,i3,λr r1 r2=>?_⟩
       by_cases z:r=m
       ·rw[z];omega
       ·exact i4 r r1 (by omega)
   rcases key P (Ya _)with⟨i1,i2⟩|⟨q,i1,i2,i3,i4⟩
   ·exact .inl ⟨i1,i2⟩
   ·exact .inr ⟨q,i1,i2,i3,i4⟩
 have hB:(((List.range (n-(p+1))).filter λj=>decide (f (p+1+j)<f p)).head?=none/\ZcY f n p)\/∃j,((List.range (n-(p+1))).filter λj=>decide (f (p+1+j)<f p)).head?=some j/\ZaO f n p (p+1+j):=by
  have key:∀m,(((List.range m).filter λj=>decide (f (p+1+j)<f p)).head?=none/\∀j,j<m->f p<=f (p+1+j))\/∃j,((List.range m).filter λj=>decide (f (p+1+j)<f p)).head?=some j/\j<m/\f (p+1+j)<f p/\∀i,i<j->f p<=f (p+1+i):=by
   intro m
   induction m with
   |zero=>exact .inl ⟨rfl,λq hq=>by omega⟩
   |succ m ih =>
    rw[YU,List.filter_append]
    rcases ih with⟨i1,i2⟩|⟨j,i1,i2,i3,i4⟩
    ·have e0:List.filter (λj=>decide (f (p+1+j)<f p)) (List.range m)=[]:=List.head?_eq_none_iff.mp i1
     rw[e0,List.nil_append]
     by_cases hlt:f (p+1+m)<f p
     ·refine .inr ⟨m,by simp[hlt],by omega,hlt,λi hi=>i2 i hi⟩
     ·refine .inl ⟨by simp[hlt],λj hj=>?_⟩
      by_cases z:j=m
      ·rw[z];omega
      ·exact i2 j (by omega)
    ·refine .inr ⟨j,?_,by omega,i3,i4⟩
     rw[List.head?_append,i1];rfl
  rcases key (n-(p+1))with⟨i1,i2⟩|⟨j,i1,i2,i3,i4⟩
  ·refine .inl ⟨i1,λr r1 r2=>?_⟩
   have:=i2 (r-(p+1)) (by omega)
   have e:p+1+(r-(p+1))=r:=by omega
   rw[e]at this;exact this
  ·refine .inr ⟨j,i1,by omega,by omega,i3,λs s1 s2=>?_⟩
   have:=i4 (s-(p+1)) (by omega)
   have e:p+1+(s-(p+1))=s:=by omega
   rw[e]at this;exact this
 rcases hA with⟨a1,a2⟩|⟨q,a1,a2⟩<;>rcases hB with⟨b1,b2⟩|⟨j,b1,b2⟩<;>rw[a1,b1]
 ·exact .inl ⟨a2,b2,rfl⟩
 ·exact .inr (.inr (.inl ⟨_,a2,b2,rfl⟩))
 ·exact .inr (.inl ⟨_,a2,b2,rfl⟩)
 ·exact .inr (.inr (.inr ⟨_,_,a2,b2,rfl⟩))
theorem ZnU {c:TT}{tb:TS}{D:Ends}{σ:St}{H:Hp} (Pv:Nat->St->Hp->Prop) (m0:Nat) (h0:Pv m0 σ H)
  (hs:∀m σ H,Pv m σ H->c σ H λb H1=>if b=true then ∃Nx:St->Hp->Prop,(∀σ' H',Nx σ' H'->∃m',m'<m/\Pv m' σ' H')/\tb {D with nx:=Nx,ct:=Nx,bk:=D.nx} σ H1 else D.nx σ H1):Zmd c tb D σ H:=⟨Pv,⟨m0,h0⟩,hs⟩
end L2
namespace L2
noncomputable def Over (f:Nat->Int) (o p:Nat):Prop:=(o<p/\∀r,o<r->r<=p->f o<=f r)\/(p<o/\∀r,p<=r->r<o->f o<f r)
theorem Over.irrefl {f:Nat->Int}{p:Nat}:¬ Over f p p:=by rintro(⟨h,_⟩|⟨h,_⟩)<;>omega
theorem Over.ne {f:Nat->Int}{o p:Nat} (h:Over f o p):o≠p:=λz=>Over.irrefl (z▸h)
theorem Over.trans {f:Nat->Int}{o e p:Nat} (h:Over f o e) (k:Over f e p):Over f o p:=by
 rcases h with⟨h1,h2⟩|⟨h1,h2⟩<;>rcases k with⟨k1,k2⟩|⟨k1,k2⟩
 ·refine .inl ⟨by omega,λr r1 r2=>?_⟩
  by_cases z:r<=e
  ·exact h2 r r1 z
  ·have:=k2 r (by omega) r2;have:=h2 e h1 (Ya _);omega
 ·have he:=h2 e h1 (Ya _)
  rcases Nat.lt_trichotomy o p with z|z|z
  ·exact .inl ⟨z,λr r1 r2=>h2 r r1 (by omega)⟩
  ·have:=k2 p (Ya _) k1;subst z;omega
  ·exact .inr ⟨z,λr r1 r2=>by have:=k2 r r1 (by omega);omega⟩
 ·have he:=h2 e (Ya _) h1
  rcases Nat.lt_trichotomy o p with z|z|z
  ·exact .inl ⟨z,λr r1 r2=>by have:=k2 r (by omega) r2;omega⟩
  ·have:=k2 p k1 (Ya _);subst z;omega
  ·exact .inr ⟨z,λr r1 r2=>h2 r (by omega) r2⟩
 ·refine .inr ⟨by omega,λr r1 r2=>?_⟩
  by_cases z:r<e
  ·have:=k2 r r1 z;have:=h2 e (Ya _) h1;omega
  ·exact h2 r (by omega) r2
theorem ZbS {f:Nat->Int}{n p:Nat}{e:Int} (hp:p<n) (h:ZN f n p e):e=-1\/∃q:Nat,e=q/\q<n/\Over f q p:=by
 have pv:∀q,Zac f p q->Over f q p:=λq h=>.inl ⟨h.1,λr r1 r2=>by
  by_cases z:r=p
  ·rw[z];exact h.2.1
  ·have:=h.2.2 r r1 (by omega);have:=h.2.1;omega⟩
 have nx:∀q,ZaO f n p q->Over f q p:=λq h=>.inr ⟨h.1,λr r1 r2=>by
  by_cases z:r=p
  ·rw[z];exact h.2.2.1
  ·have:=h.2.2.2 r (by omega) r2;have:=h.2.2.1;omega⟩
 rcases h with⟨_,_,h⟩|⟨q,h1,_,h⟩|⟨r,_,h1,h⟩|⟨q,r,h1,h2,h⟩
 ·exact .inl h
 ·exact .inr ⟨q,h,by have:=h1.1;omega,pv q h1⟩
 ·exact .inr ⟨r,h,h1.2.1,nx r h1⟩
 ·by_cases z:f q<=f r
  ·rw[Yd z]at h;exact .inr ⟨r,h,h2.2.1,nx r h2⟩
  ·rw[Ye z]at h;exact .inr ⟨q,h,by have:=h1.1;omega,pv q h1⟩
theorem Zhr {f:Nat->Int}{n p o:Nat}{e:Int} (hp:p<n) (ho:o<n) (h:ZN f n p e) (hO:Over f o p):∃q:Nat,e=q/\q<n/\(o=q\/Over f o q):=by
 rcases hO with⟨o1,o2⟩|⟨o1,o2⟩
 ·have op:=o2 p o1 (Ya _)
  have pv:∀q,Zac f p q->o=q\/(o<q/\Over f o q/\f o<=f q):=λq h=>by
   rcases Nat.lt_trichotomy o q with z|z|z
   ·have:=h.1;exact .inr ⟨z,.inl ⟨z,λr r1 r2=>o2 r r1 (by omega)⟩,o2 q z (by omega)⟩
   ·exact .inl z
   ·have:=h.2.2 o z o1;omega
  rcases h with⟨h1,_,h⟩|⟨q,h1,_,h⟩|⟨r,h1,_,h⟩|⟨q,r,h1,h2,h⟩
  ·have:=h1 o o1;omega
  ·refine⟨q,h,by have:=h1.1;omega,?_⟩
   rcases pv q h1 with z|z
   ·exact .inl z
   ·exact .inr z.2.1
  ·have:=h1 o o1;omega
  ·by_cases z:f q<=f r
   ·rw[Yd z]at h
    refine⟨r,h,h2.2.1,.inr (.inl ⟨by have:=h2.1;omega,λs s1 s2=>?_⟩)⟩
    by_cases sp:s<=p
    ·exact o2 s s1 sp
    ·by_cases sr:s=r
     ·rw[sr]
      rcases pv q h1 with y|y
      ·rw[y];exact z
      ·have:=y.2.2;omega
     ·have:=h2.2.2.2 s (by omega) (by omega);omega
   ·rw[Ye z]at h
    refine⟨q,h,by have:=h1.1;omega,?_⟩
    rcases pv q h1 with z|z
    ·exact .inl z
    ·exact .inr z.2.1
 ·have op:=o2 p (Ya _) o1
  have nx:∀r,ZaO f n p r->o=r\/(r<o/\Over f o r/\f o<f r):=λr h=>by
   rcases Nat.lt_trichotomy o r with z|z|z
   ·have:=h.2.2.2 o o1 z;omega
   ·exact .inl z
   ·have:=h.1;exact .inr ⟨z,.inr ⟨z,λs s1 s2=>o2 s (by omega) s2⟩,o2 r (by omega) z⟩
  rcases h with⟨_,h1,h⟩|⟨q,_,h1,h⟩|⟨r,_,h1,h⟩|⟨q,r,h1,h2,h⟩
  ·have:=h1 o o1 ho;omega
  ·have:=h1 o o1 ho;omega
  ·refine⟨r,h,h1.2.1,?_⟩
   rcases nx r h1 with z|z
   ·exact .inl z
   ·exact .inr z.2.1
  ·by_cases z:f q<=f r
   ·rw[Yd z]at h
    refine⟨r,h,h2.2.1,?_⟩
    rcases nx r h2 with z|z
    ·exact .inl z
    ·exact .inr z.2.1
   ·rw[Ye z]at h
    refine⟨q,h,by have:=h1.1;omega,.inr (.inr ⟨by have:=h1.1;omega,λs s1 s2=>?_⟩)⟩
    by_cases sp:p<=s
    ·exact o2 s sp s2
    ·by_cases sq:s=q
     ·rw[sq]
      rcases nx r h2 with y|y
      ·rw[y];omega
      ·have:=y.2.2;omega
     ·have:=h1.2.2 s (by omega) (by omega);omega
theorem Zgk {f:Nat->Int}{n p o q:Nat} (hp:p<n) (ho:o<n) (h:ZN f n p (q:Int)):Over f o p↔o=q\/Over f o q:=by
 refine⟨λk=>?_,λk=>?_⟩
 ·obtain⟨q',e,_,z⟩:=Zhr hp ho h k
  have:q'=q:=by omega
  rw[this]at z;exact z
 ·rcases ZbS hp h with z|⟨q',e,_,z⟩
  ·omega
  ·have:q'=q:=by omega
   rw[this]at z
   rcases k with k|k
   ·rw[k];exact z
   ·exact k.trans z
theorem Zeh {f:Nat->Int}{n p o:Nat} (hp:p<n) (ho:o<n) (h:ZN f n p (-1)):¬ Over f o p:=λk=>by
 obtain⟨q',e,_,z⟩:=Zhr hp ho h k
 omega
theorem Zgl {P Q:Nat->Bool}:∀n,(∀o,o<n->P o=Q o)->(List.range n).countP P=(List.range n).countP Q
 |0,_=>rfl
 |n+1,h=>by
  rw[YU,List.countP_append,List.countP_append,Zgl n (λo ho=>h o (by omega))]
  simp[List.countP_cons,h n (by omega)]
theorem Zez {P Q:Nat->Bool}{e:Nat}:∀n,e<n->(∀o,o<n->(P o=true↔o=e\/Q o=true))->Q e=false->(List.range n).countP P=(List.range n).countP Q+1
 |0,h,_,_=>by omega
 |n+1,h,hi,hq=>by
  rw[YU,List.countP_append,List.countP_append]
  by_cases z:e=n
  ·have e1:(List.range n).countP P=(List.range n).countP Q:=Zgl n λo ho=>by
    have:=hi o (by omega)
    cases hP:P o<;>cases hQ:Q o<;>simp[hP,hQ]at this<;>first|rfl|omega
   have hPn:P n=true:=(hi n (by omega)).mpr (.inl z.symm)
   rw[z]at hq
   rw[e1];simp[List.countP_cons,hPn,hq]
  ·rw[Zez n (by omega) (λo ho=>hi o (by omega)) hq]
   have:=hi n (by omega)
   have hn:P n=Q n:=by
    cases hP:P n<;>cases hQ:Q n<;>simp[hP,hQ]at this<;>first|rfl|omega
   simp[List.countP_cons,hn];omega
theorem Zmk {P:Nat->Bool}{e n:Nat} (he:e<n) (h:P e=false):(List.range n).countP P<n:=by
 have h1:=Zez (P:=λo=>decide (o=e)||P o) (Q:=P) n he (λo _=>by simp) h
 have h2:=List.countP_le_length (p:=λo=>decide (o=e)||P o) (l:=List.range n)
 rw[h1,Y2]at h2
 omega
noncomputable def Zca (T:List Int):Nat->Int->List Nat
 |0,_=>[]
 |k+1,at_=>if 0<=at_/\at_<T.length then at_.toNat::Zca T k (nth T at_.toNat)else []
open Classical in
noncomputable def dep (f:Nat->Int) (n p:Nat):Nat:=(List.range n).countP λo=>decide (Over f o p)
theorem Zjy {f:Nat->Int}{n p:Nat} (hp:p<n):dep f n p<n:=by
 classical
 exact Zmk hp (by simpa using Over.irrefl)
theorem Zft {f:Nat->Int}{n p q:Nat} (hp:p<n) (h:ZN f n p (q:Int)):dep f n p=dep f n q+1:=by
 classical
 have hq:q<n:=by
  rcases ZbS hp h with z|⟨q',e,z,_⟩<;>omega
 exact Zez n hq (λo ho=>by simpa using Zgk hp ho h) (by simpa using Over.irrefl)
theorem ZnV {f:Nat->Int}{n p:Nat} (hp:p<n) (h:ZN f n p (-1)):dep f n p=0:=by
 classical
 unfold dep
 rw[List.countP_eq_zero]
 intro o ho
 simpa using Zeh hp (by simpa using ho) h
theorem Zgm {ns T:List Int} (hT:ZR ns T):∀k p,p<ns.length->dep (nth ns) ns.length p<=k->(∀o,o∈Zca T k (nth T p)↔o<ns.length/\Over (nth ns) o p)/\(Zca T k (nth T p)).length=dep (nth ns) ns.length p
 |k,p,hp,hk=>by
  have hE:ZN (nth ns) ns.length p (nth T p):=hT.2 p hp
  rcases ZbS hp hE with z|⟨q,e,hq,hO⟩
  ·have e0:Zca T k (nth T p)=[]:=by
    cases k with
    |zero=>rfl
    |succ k=>rw[Zca,Ye (by omega)]
   rw[e0]
   rw[z]at hE
   exact⟨λo=>⟨λh=>by simp at h,λh=>absurd h.2 (Zeh hp h.1 hE)⟩,by rw[ZnV hp hE];rfl⟩
  ·rw[e]at hE
   have hd:=Zft hp hE
   obtain⟨k',rfl⟩:∃k',k=k'+1:=⟨k-1,by omega⟩
   have ih:=Zgm hT k' q hq (by omega)
   have eT:((q:Nat):Int).toNat=q:=by omega
   rw[Zca,e,Yd ⟨by omega,by rw[hT.1];omega⟩,eT]
   refine⟨λo=>?_,by simp[ih.2,hd]⟩
   rw[Yk,ih.1 o]
   refine⟨λh=>?_,λh=>?_⟩
   ·rcases h with h|h
    ·rw[h];exact⟨hq,hO⟩
    ·exact⟨h.1,h.2.trans hO⟩
   ·rcases(Zgk hp h.1 hE).mp h.2 with z|z
    ·exact .inl z
    ·exact .inr ⟨h.1,z⟩
end L2
namespace L2
open PySem PySem.Spec PyProof.Rows PySem.W
noncomputable def ZaF (l:List Nat):List V:=l.map λq=>V.int (q:Nat)
theorem Zfu (l:List Nat):(ZaF l).length=l.length:=by simp[ZaF]
theorem Zk6 (a b:List Nat):ZaF (a++b)=ZaF a++ZaF b:=by simp[ZaF]
theorem ZiE {l:List Nat}{j q:Nat} (h:l[j]?=some q):atI (ZaF l) (j:Int)=some (V.int (q:Nat)):=by
 have hj:=(Yn.mp h).1
 have e:=(Yn.mp h).2
 rw[ZhR rfl (by rw[Zfu];exact hj)]
 simp[ZaF,e]
theorem Zks {n j:Nat} (h:j<n):ixN n (j:Int)=some j:=by
 unfold ixN
 rw[Yd (by omega),Yd (by omega)];simp
noncomputable def wayI (T:List Int) (p:Nat):List Int:=(Zca T T.length (nth T p)).map λq=>((q:Nat):Int)
theorem ZiF (T:List Int):∀k a,(Zca T k a).length<=k
 |0,_=>by simp[Zca]
 |k+1,a=>by
  rw[Zca]
  split
  ·have:=ZiF T k (nth T a.toNat);simp;omega
  ·simp
section
variable {X:Cx}
theorem op_inK {K:Frag} (hK:X.K=K):OpR X (compareOp .In) (rIn K false):=hK▸ZkO
theorem Zk7 {K:Frag} (hK:X.K=K):OpR X (compareOp .NotIn) (rIn K true):=hK▸ZhJ
end
theorem Zkt (x:Int) (xs:List Int):inV (.int x) (xs.map V.int)=decide (x∈xs):=by
 induction xs with
 |nil=>rfl
 |cons y r ih =>
  have:inV (.int x) ((y::r).map V.int)=(decide (y=x)||inV (.int x) (r.map V.int)):=rfl
  rw[this,ih]
  by_cases z:y=x
  ·simp[z]
  ·have:¬ x=y:=λh=>z h.symm
   simp[z,this]
theorem ZM {a b:TS}{D:Ends}{σ:St}{H:Hp} (Mid:St->Hp->Prop) (h1:∀R:St->Hp->Prop,(∀σ' H',Mid σ' H'->R σ' H')->a {D with nx:=R} σ H) (h2:∀σ' H',Mid σ' H'->b D σ' H'):tSeq a b D σ H:=h1 _ h2
theorem Zgn (xs:List V) (j:Nat):ZbH xs none (some (j:Int))=xs.take j:=by
 have h:¬ ((j:Int)<0):=by omega
 unfold ZbH HT.sIx
 simp only[Ye h,List.drop_zero,Nat.sub_zero]
 rw[List.take_eq_take_iff]
 omega
theorem ZbO (xs:List V) (j:Nat):ZbH xs (some (j:Int)) none=xs.drop j:=by
 have h:¬ ((j:Int)<0):=by omega
 unfold ZbH HT.sIx
 simp only[Ye h,Int.toNat_natCast]
 by_cases z:j<=xs.length
 ·rw[Nat.min_eq_left z]
  exact List.take_of_length_le (by rw[YX];omega)
 ·rw[Nat.min_eq_right (by omega),Nat.sub_self,List.take_zero,List.drop_eq_nil_of_le (show xs.length<=j by omega)]
end L2
namespace L2
open PySem PySem.Spec PyProof.Rows
structure CellsOf (cl:List (Str×Addr)) (n0:Nat) (cs:List (Str×Addr)) (h0 h:Heap) (done:List (Str×NameKind)):Prop where
 old:∀b o,h0.get? b=some o->h.get? b=some o
 sz:n0<=h.objs.size
 mem:∀p∈cs,p∈cl\/(n0<=p.2/\p.2<h.objs.size/\h.IsCell p.2 none)
 inj:∀p∈cs,∀q∈cs,n0<=p.2->p.2=q.2->p.1=q.1
 own:∀y∈done,y.2=.cell->∃c,cs.lookup y.1=some c/\n0<=c
 oth:∀x,(∀y∈done,y.2=.cell->y.1≠x)->cs.lookup x=cl.lookup x
theorem Zfv {M:Model}{A:Around}{E:Value->Shared->Prop}{cl:List (Str×Addr)}{n0:Nat}{h0:Heap} (hcl:∀p∈cl,p.2<n0):∀(names:List (Str×NameKind)) (cs:List (Str×Addr)) (done:List (Str×NameKind)) (s:Shared),CellsOf cl n0 cs h0 s.heap done ->
  wpAny M A (forIn names cs λ(x:Str×NameKind) (r:List (Str×Addr))=>(match x with
   |(name,kind)=>if (kind==NameKind.cell)=true then do
     let a <-alloc {cls:=.type "cell",data:=.cell none}
     pure (ForInStep.yield ((name,a)::r))
    else pure (ForInStep.yield r):Sem (ForInStep (List (Str×Addr))))) (λcs' s'=>∃h',s'={s with heap:=h'}/\CellsOf cl n0 cs' h0 h' (done++names)) E s
 |[],cs,done,s,I=>by
  rw[List.forIn_nil,List.append_nil]
  exact Yq ⟨s.heap,rfl,I⟩
 |(n,k)::r,cs,done,s,I=>by
  rw[List.forIn_cons]
  by_cases hk:k=.cell
  ·subst hk
   simp only[beq_self_eq_true,if_true]
   refine Yf (Yf (wpAny_alloc (Yq ?_)))
   have hget:(s.heap.push {cls:=.type "cell",data:=.cell none}).get? s.heap.objs.size=some {cls:=.type "cell",data:=.cell none}:=YD _ rfl
   have I':CellsOf cl n0 ((n,s.heap.objs.size)::cs) h0 (s.heap.push {cls:=.type "cell",data:=.cell none}) (done++[(n,.cell)]):=by
    refine⟨λb o e=>Ys _ (I.old b o e),by rw[Heap.size_push];exact Nat.le_succ_of_le I.sz,λp hp=>?_,λp hp q hq hn e=>?_,λy hy hc=>?_,λx hx=>?_⟩
    ·rcases Yk.mp hp with z|z
     ·subst z
      exact .inr ⟨I.sz,by rw[Heap.size_push];exact Nat.lt_succ_self _,_,hget,rfl⟩
     ·rcases I.mem p z with w|⟨w1,w2,o,w3,w4⟩
      ·exact .inl w
      ·exact .inr ⟨w1,by rw[Heap.size_push];exact YV w2,o,Ys _ w3,w4⟩
    ·have lt:∀p∈cs,p.2<s.heap.objs.size:=λp hp=>by
      rcases I.mem p hp with w|w
      ·exact Yw (hcl p w) I.sz
      ·exact w.2.1
     rcases Yk.mp hp with z|z<;>rcases Yk.mp hq with z'|z'
     ·rw[z,z']
     ·subst z;exact absurd (show s.heap.objs.size<s.heap.objs.size from(show s.heap.objs.size=q.2 from e)▸lt q z') (YE _)
     ·subst z';exact absurd (show s.heap.objs.size<s.heap.objs.size from(show p.2=s.heap.objs.size from e)▸lt p z) (YE _)
     ·exact I.inj p z q z' hn e
    ·rcases Yl.mp hy with z|z
     ·obtain⟨c,e1,e2⟩:=I.own y z hc
      by_cases hx:y.1=n
      ·exact⟨s.heap.objs.size,by rw[hx];simp,I.sz⟩
      ·have hb:(y.1==n)=false:=by simpa using hx
       exact⟨c,by simp only[List.lookup_cons,hb];exact e1,e2⟩
     ·have:y=(n,.cell):=by simpa using z
      subst this
      exact⟨s.heap.objs.size,by simp,I.sz⟩
    ·have hxn:n≠x:=hx (n,.cell) (by simp) rfl
     have hb:(x==n)=false:=by simpa using hxn.symm
     simp only[List.lookup_cons,hb]
     exact I.oth x λy hy=>hx y (YF _ hy)
   refine thn (Zfv hcl r _ _ {s with heap:=s.heap.push {cls:=.type "cell",data:=.cell none}} I') λcs' s' ⟨h',e1,e2⟩=>⟨h',e1,?_⟩
   rw[Y1]at e2
   exact e2
  ·have e1:(k==NameKind.cell)=false:=by cases k<;>first|rfl|exact absurd rfl hk
   simp only[e1,Bool.false_eq_true,if_false]
   refine Yf (Yq ?_)
   have I':CellsOf cl n0 cs h0 s.heap (done++[(n,k)]):=by
    refine⟨I.old,I.sz,I.mem,I.inj,λy hy hc=>?_,λx hx=>I.oth x λy hy=>hx y (YF _ hy)⟩
    rcases Yl.mp hy with z|z
    ·exact I.own y z hc
    ·have:y=(n,k):=by simpa using z
     subst this
     exact absurd hc hk
   refine thn (Zfv hcl r _ _ s I') λcs' s' ⟨h',e1,e2⟩=>⟨h',e1,?_⟩
   rw[Y1]at e2
   exact e2
theorem Zjz {M:Model}{A:Around}{E:Value->Shared->Prop}{s:Shared}{scope:Scope}{globals:Addr}{cl:List (Str×Addr)}{qual:Str}{around:Env}{Q:Env->Shared->Prop} (hcl:∀p∈cl,p.2<s.heap.objs.size)
  (h:∀cs h',CellsOf cl (s.heap.objs.size+1) cs (s.heap.push {cls:=.type "dict",data:=.dict #[]}) h' scope.names->Q {scope:=scope,locals:=s.heap.objs.size,globals:=globals,cells:=cs,qual:=qual,func:=none,code:=around.code,frame:=around.frame,builtins:=around.builtins} {s with heap:=h'}) :
  wpAny M A (newFunctionEnv scope globals cl [] qual none .none (some around)) Q E s:=by
 unfold newFunctionEnv
 refine Yf (wpAny_alloc ?_)
 refine Yf (thn (Zfv (cl:=cl) (n0:=s.heap.objs.size+1) (h0:=s.heap.push {cls:=.type "dict",data:=.dict #[]}) (λp hp=>YV (hcl p hp)) scope.names cl [] {s with heap:=s.heap.push {cls:=.type "dict",data:=.dict #[]}} ⟨λb o e=>e,by rw[Heap.size_push];exact Ya _,λp hp=>.inl hp,λp hp q hq hn e=>absurd (hcl p hp) (Nat.not_lt_of_le (Nat.le_of_succ_le hn)),λy hy=>(nomatch hy),λx hx=>rfl⟩) λcs s' ⟨h',e1,e2⟩=>?_)
 subst e1
 rw[List.nil_append]at e2
 exact Yf (Yq (Yq (h cs h' e2)))
noncomputable def Za8 (around scope:Scope):Bool :=
 scope.kind==.function&&around.kind==.function&&scope.names.all λy=>match y.2 with
  |.local=>scope.names.lookup y.1==some .local
  |.cell=>scope.names.lookup y.1==some .cell
  |.free=>(scope.names.lookup y.1==some .free)&&(around.names.lookup y.1==some .cell||around.names.lookup y.1==some .free)
  |_=>true
theorem Ze4 {a s:Scope} (h:Za8 a s=true):s.kind=.function:=by
 simp only[Za8,Bool.and_eq_true,beq_iff_eq]at h;exact h.1.1
theorem ZeA {a s:Scope} (h:Za8 a s=true) {y:Str×NameKind} (hy:y∈s.names):(match y.2 with
  |.local=>s.names.lookup y.1==some .local
  |.cell=>s.names.lookup y.1==some .cell
  |.free=>(s.names.lookup y.1==some .free)&&(a.names.lookup y.1==some .cell||a.names.lookup y.1==some .free)
  |_=>true)=true:=by
 simp only[Za8,Bool.and_eq_true]at h
 exact List.all_eq_true.mp h.2 y hy
theorem Zg1 {a s:Scope} (h:Za8 a s=true):∀y∈s.names,y.2=.local->s.names.lookup y.1=some .local:=λy hy e=>by
 have q:=ZeA h hy
 rw[e]at q
 exact beq_iff_eq.mp q
theorem ZhX {a s:Scope} (h:Za8 a s=true):∀y∈s.names,y.2=.cell->s.names.lookup y.1=some .cell:=λy hy e=>by
 have q:=ZeA h hy
 rw[e]at q
 exact beq_iff_eq.mp q
theorem ZcZ {a s:Scope} (h:Za8 a s=true):∀y∈s.names,y.2=.free->s.names.lookup y.1=some .free/\(a.names.lookup y.1=some .cell\/a.names.lookup y.1=some .free):=λy hy e=>by
 have q:=ZeA h hy
 rw[e]at q
 simp only[Bool.and_eq_true,Bool.or_eq_true,beq_iff_eq]at q
 exact q
noncomputable def ZaA (X:Cx) (Nc:List Str) (scope:Scope) (cs:List (Str×Addr)) (C:Addr) (s2:Shared) (H2:Hp) (fp:List Addr):Cx :=
 {Zl5 X Nc scope cs C s2 H2 fp with fn:=λx=>scope.names.lookup x==some .cell}
theorem ZiG {env:Env}{scope:Scope} (h:∀y∈scope.names,y.2=.free->∃c,env.cells.lookup y.1=some c) :
  ∃cl,closureFor scope env=pure cl/\(∀p∈cl,env.cells.lookup p.1=some p.2)/\(∀y∈scope.names,y.2=.free->∃c,cl.lookup y.1=some c/\env.cells.lookup y.1=some c):=by
 obtain⟨cl,e,h1,h2,h3⟩:=Zex (env:=env) scope.names [] h
 have up:∀p∈cl,env.cells.lookup p.1=some p.2:=λp q=>by
  rcases h1 _ q with z|z
  ·cases z
  ·exact z
 refine⟨cl,?_,up,λy hy hf=>?_⟩
 ·unfold closureFor
  simp only[bind_pure_comp]at e⊢
  rw[e]
  exact pure_bind _ _
 ·obtain⟨c,hc⟩:=h3 y hy hf
  cases q:cl.lookup y.1 with
  |none=>exact absurd (List.lookup_eq_none_iff.mp q _ hc) (by simp)
  |some c'=>exact⟨c',rfl,up _ (PySem.mem_of_lookup q)⟩
section
variable {X:Cx}
theorem ZiH {pins:List (Addr×Obj)}{σ:St}{H2:Hp}{s2:Shared}{Nc:List Str}{js:List (Option Nat)}{scope:Scope}{cs:List (Str×Addr)}{fp:List Addr}{h1:Heap}{tk:Nat}{D C:Addr}{oD:Obj}{m:Str->Option Value}
  (I:Inv X pins σ H2 s2) (hok:Za8 X.env.scope scope=true) (htk:Za6 X.N Nc scope js 0=true) (up:∀x c,cs.lookup x=some c->X.env.cells.lookup x=some c\/(C<c/\h1.IsCell c none)) (hinj:∀x y c,cs.lookup x=some c->cs.lookup y=some c->x=y) (hown:∀y∈scope.names,y.2=.cell->∃c,cs.lookup y.1=some c/\C<c) (hfr:∀y∈scope.names,y.2=.free->∃c,cs.lookup y.1=some c/\X.env.cells.lookup y.1=some c)
  (hfp:∀b∈fp,FpOk X pins H2 b) (hfl:∀b∈fp,b<s2.heap.objs.size) (hD:D=s2.heap.objs.size) (hC:C=s2.heap.objs.size+1) (old:∀b o,s2.heap.get? b=some o->h1.get? b=some o) (hns:h1.Ns C m) (hoD:h1.get? D=some oD) (hdD:∀v,oD.data≠.cell v) :
  Inv (ZaA X Nc scope cs C s2 H2 fp) [(D,oD)] (ZcX js σ) H2 {s2 with heap:=h1,toks:=tk}:=by
 have leC:s2.heap.objs.size<=C:=by rw[hC];exact YT _
 have leD:s2.heap.objs.size<=D:=Nat.le_of_eq hD.symm
 have kf:∀x,((compEnvC scope cs C X.env).kindOf x=some .cell\/(compEnvC scope cs C X.env).kindOf x=some .free)->∃c,cs.lookup x=some c:=λx hx=>by
  have:∃k,(compEnvC scope cs C X.env).kindOf x=some k/\(k=.cell\/k=.free):=hx.elim (λq=>⟨_,q,.inl rfl⟩) λq=>⟨_,q,.inr rfl⟩
  obtain⟨k,e,hk⟩:=this
  obtain⟨k',h1,h2⟩:=ZaM (show(scope.names.map _).lookup x=some k from e)
  have hm:=lookup_mem h1
  have:k'=.free\/k'=.cell:=by
   rcases h2 with q|q
   ·subst q
    exact hk.symm
   ·exact .inl q.1
  rcases this with z|z
  ·subst z
   obtain⟨c,q,_⟩:=hfr _ hm rfl
   exact⟨c,q⟩
  ·subst z
   obtain⟨c,q,_⟩:=hown _ hm rfl
   exact⟨c,q⟩
 have nC:∀c x,X.env.cells.lookup x=some c->c<s2.heap.objs.size:=λc x e=>by
  obtain⟨v,q⟩:=I.cell x c e
  exact q.lt
 have noB:∀b,b∈fp->b∉frs X.stack:=λb hb q=>by
  rcases Yk.mp (I.Zfn b q)with z|z
  ·exact(hfp b hb).2.1 z
  ·exact(hfp b hb).2.2.1 z
 have okX:(ZaA X Nc scope cs C s2 H2 fp).Ok:=by
  refine⟨I.ok.mod,(show scope.kind=.function from Ze4 hok),I.ok.glob,I.ok.blt,?_,λx y c e1 e2=>hinj x y c e1 e2,λx hx=>?_,(λx c e1 e2=>?_),I.ok.hd,I.ok.frames,.inl rfl,λb hb=>⟨?_,λx c e=>(up _ _ e).elim (λz=>(hfp b hb).2.2.2.2.1 x c z) λz=>Nat.ne_of_gt (Nat.lt_trans (Yw (hfl b hb) leC) z.1)⟩,I.bs,Yh I.ok.bsz I.sz,λb o e hb=>?_,λb hb=>noB b hb,I.stack,I.ZhE⟩
  ·show s2.heap.objs.size<=C;exact leC
  ·exact kf x hx
  ·have hm:=lookup_mem (beq_iff_eq.mp (show(scope.names.lookup x==some NameKind.cell)=true from e1))
   obtain⟨c',q1,q2⟩:=hown _ hm rfl
   have:c=c':=Yx ((show cs.lookup x=some c from e2).symm.trans q1)
   rw[this]
   exact Yh leC (YY q2)
  ·exact Yv (Yw (hfl b hb) leC)
  ·rcases(hfp b hb).2.2.2.1 with q|q
   ·exact I.ok.noex b o e q
   ·exact absurd (Yw (Yi e) (Yh I.ok.bsz q)) (YE _)
 refine⟨okX,rfl,I.bare,Un.kept old,⟨m,hns,λi x v e1 e2 e3=>?_⟩,λx c e=>?_,I.hok.fresh leC,λx c e=>(up _ _ e).elim (λz=>I.freeC x c z) λz=>I.hok.fresh (Yh leC (YY z.1)),λp hp=>?_,I.hok.kept old,?_⟩
 ·have e2':(ZcX js σ)[i]?=some (some v):=e2
  unfold ZcX at e2'
  rw[Yt]at e2'
  cases q:js[i]? with
  |none=>rw[q]at e2';cases e2'
  |some j0 =>
   cases j0 with
   |none=>rw[q]at e2';cases e2'
   |some j =>
    rw[q]at e2'
    simp only[Option.map_some,Option.some.injEq]at e2'
    have e4:σ[j]?=some (some v):=by
     cases z:σ[j]? with
     |none=>rw[z]at e2';cases e2'
     |some o=>rw[z]at e2';simp only[Option.join_some]at e2';rw[e2']
    obtain⟨y,y1,y2,y3⟩:=Zfr htk q
    rw[Nat.zero_add]at y1
    have:x=y:=Yx ((show Nc[i]?=some x from e1).symm.trans y1)
    subst this
    have hm:=lookup_mem y3
    obtain⟨c,c1,c2⟩:=hfr _ hm rfl
    have hk:=(ZcZ hok _ hm rfl).2
    obtain⟨m0,hn0,hl0⟩:=I.loc
    obtain⟨u,r,l⟩:=hl0 j x v y2 e4 (hk.elim (λz=>.inr (.inl z)) λz=>.inr (.inr z))
    refine⟨u,r,.inr ⟨?_,c,c1,?_⟩⟩
    ·rcases e3 with z|z|z
     ·obtain⟨k',w1,w2⟩:=ZaM (show(scope.names.map _).lookup x=some NameKind.local from z)
      rw[y3]at w1;cases w1
      rcases w2 with w|w
      ·cases w
      ·cases w.2
     ·exact .inl z
     ·exact .inr z
    ·rcases l with⟨lk,_⟩|⟨_,c',c3,c4⟩
     ·rcases hk with z|z
      ·rw[show X.env.kindOf x=some .cell from z]at lk;cases lk
      ·rw[show X.env.kindOf x=some .free from z]at lk;cases lk
     ·rw[c2]at c3;cases c3
      obtain⟨oc,w1,w2⟩:=c4
      exact⟨oc,old _ _ w1,w2⟩
 ·rcases up _ _ e with z|z
  ·obtain⟨v,oc,w1,w2⟩:=I.cell x c z
   exact⟨v,oc,old _ _ w1,w2⟩
  ·exact⟨_,z.2⟩
 ·have:p=(D,oD):=by
   have hp':p∈([]++[(D,oD)]:List (Addr×Obj)):=hp
   simpa using hp'
  subst this
  refine⟨hoD,I.hok.fresh leD,(by show D≠C;rw[hD,hC];exact Yv (Nat.lt_succ_self _)),λhb=>?_,hdD⟩
  have hb':D∈frs X.stack:=hb
  obtain⟨_,o,ho,_⟩:=I.stack.mem hb'
  exact absurd (Yw (Yi ho) leD) (YE _)
 ·have:=Zey htk
  show(ZcX js σ).length=Nc.length
  unfold ZcX;rw[Yc];omega
theorem Zhs {pins:List (Addr×Obj)}{σ:St}{H:Hp}{s:Shared}{tg elt iter:Expr}{ifs:List Expr}{scope:Scope}{pos:Pos}{wi:TI}{g:TG}{tt:TT}{te:TE}{Nc:List Str}{js:List (Option Nat)}{use:Option (Value->Sem Unit)}{Q:VK}{QQ:Value->Shared->Prop}
  (hc:X.calm=true) (hok:Za8 X.env.scope scope=true) (htk:Za6 X.N Nc scope js 0=true) (hi:PI X tg iter wi)
  (hg:∀cl C s2 H2 fp,PG (ZaA X Nc scope cl C s2 H2 fp) tg g) (ht:∀cl C s2 H2 fp,ZkS (ZaA X Nc scope cl C s2 H2 fp) ifs tt) (he:∀cl C s2 H2 fp,PE (ZaA X Nc scope cl C s2 H2 fp) elt te)
  (hs:∀x,foldedSetIterable iter X.env x=pure x) {L:List Nat} (ho:Zhn g L) (hL:(L.all λk=>js[k]?==some none)=true) (I:Inv X pins σ H s) (h:Zkm wi g tt te js σ H Q)
  (fin:∀(D C:Addr) (H' H2:Hp) (s2 s':Shared) (xs:List V) (m:Str->Option Value),Inv X pins σ H2 s2->H' C=none->C=D+1->D=s2.heap.objs.size->s'.heap.Ns C m->(∀h',Heap.SameBut C s'.heap h'->Inv X pins σ (upd H' D (.lst xs)) {s' with heap:=h'})->Q (.ref D) (upd H' D (.lst xs)) ->
   compPost (model X.prog X.w) X.A X.xe use QQ (.ref D) C (.ok .next) s') :
  wpAny (model X.prog X.w) X.A (comprehension (.ListComp elt [⟨tg,iter,ifs,0⟩] scope pos) scope X.env (firstIterPos [⟨tg,iter,ifs,0⟩] pos) (newList []) false (eval iter X.env) use) QQ X.xe s:=by
 have hcells:∀y∈scope.names,y.2=.free->∃c,X.env.cells.lookup y.1=some c:=λy hy hf=>I.ok.has y.1 (ZcZ hok y hy hf).2
 obtain⟨cl,hcl,upM,hfr0⟩:=ZiG hcells
 have hk:=Ze4 hok
 refine wpAny_comprehension_free (use:=use) rfl hs hcl hk (Zg1 hok) (thn (hi pins s σ H _ I h) λv s1 h1=>thn h1 λitv s2 h2=>?_)
 obtain⟨it,fp,tn,J,H2,e,I2,T,st2,f2,W,⟨m0,w0⟩,turn⟩:=h2
 subst e
 have clt:∀p∈cl,p.2<s2.heap.objs.size:=λp hp=>by
  obtain⟨v,q⟩:=I2.cell p.1 p.2 (upM p hp)
  exact q.lt
 refine wpAny_newObj_type (Zjz (λp hp=>?_) λcs h₁ CO=>?_)
 ·show p.2<(s2.heap.push _).objs.size
  rw[Heap.size_push];exact YV (clt p hp)
 dsimp only at CO⊢
 generalize hH2:s2.heap.push {cls:=.type "list",dict:=none,data:=.seq ([]:List Value).toArray}=HH at CO⊢
 have hC:HH.objs.size=s2.heap.objs.size+1:=by rw[<-hH2,Heap.size_push]
 have hcl':∀p∈cl,p.2<HH.objs.size:=λp hp=>by rw[hC];exact YV (clt p hp)
 have hns₁:h₁.Ns HH.objs.size (λ_=>none):=⟨_,#[],_,CO.old _ _ (YD _ rfl),rfl,λe he=>absurd he (by simp),λn=>rfl⟩
 have up:∀x c,cs.lookup x=some c->X.env.cells.lookup x=some c\/(HH.objs.size<c/\h₁.IsCell c none):=λx c e=>by
  rcases CO.mem _ (PySem.mem_of_lookup e)with z|z
  ·exact .inl (upM _ z)
  ·exact .inr ⟨z.1,z.2.2⟩
 have hinj:∀x y c,cs.lookup x=some c->cs.lookup y=some c->x=y:=λx y c e1 e2=>by
  have m1:=PySem.mem_of_lookup e1
  have m2:=PySem.mem_of_lookup e2
  rcases CO.mem _ m1 with z|z
  ·rcases CO.mem _ m2 with z'|z'
   ·exact I2.ok.inj x y c (upM _ z) (upM _ z')
   ·exact absurd (hcl' _ z) (Nat.not_lt_of_le (Nat.le_of_succ_le z'.1))
  ·exact CO.inj _ m1 _ m2 z.1 rfl
 have hfr:∀y∈scope.names,y.2=.free->∃c,cs.lookup y.1=some c/\X.env.cells.lookup y.1=some c:=λy hy hf=>by
  obtain⟨c,q1,q2⟩:=hfr0 y hy hf
  refine⟨c,?_,q2⟩
  rw[CO.oth y.1 λy' hy' hc' z=>?_]
  ·exact q1
  ·have w1:=ZhX hok y' hy' hc'
   have w2:=(ZcZ hok y hy hf).1
   rw[z,w2]at w1;cases w1
 have hfl:∀b∈fp,b<s2.heap.objs.size:=λb hb=>by
  obtain⟨o,ho,_⟩:=T.obj 0 _ st2 b hb
  exact Yi ho
 have hDC:s2.heap.objs.size≠HH.objs.size:=by rw[hC];exact Yv (Nat.lt_succ_self _)
 have old:∀b o,s2.heap.get? b=some o->h₁.get? b=some o:=λb o e=>CO.old b o (Ys _ (hH2▸Ys _ e))
 have hacc:h₁.get? s2.heap.objs.size=some {cls:=.type "list",dict:=none,data:=.seq ([]:List Value).toArray}:=CO.old _ _ (Ys _ (hH2▸YD _ rfl))
 have I4:=ZiH (Nc:=Nc) (js:=js) (tk:=s2.toks) I2 hok htk up hinj (λy hy hc=>CO.own y hy hc) hfr f2 hfl rfl hC old hns₁ hacc (by intro v z;cases z)
 have st4:tn 0 h₁:=T.keep _ _ _ st2 λb _ o e=>old b o e
 generalize hXc:ZaA X Nc scope cs HH.objs.size s2 H2 fp=Xc at I4
 have hXA:Xc.A=X.A:=by rw[<-hXc];rfl
 have hXe:Xc.env=compEnvC scope cs HH.objs.size X.env:=by rw[<-hXc];rfl
 have hXp:Xc.prog=X.prog:=by rw[<-hXc];rfl
 have hXw:Xc.w=X.w:=by rw[<-hXc];rfl
 have hXx:Xc.xe=λ_ _=>False:=by rw[<-hXc];rfl
 have hXk:Xc.K=X.K:=by rw[<-hXc];rfl
 have hXcalm:Xc.calm=true:=by rw[<-hXc];exact hc
 have fpok:∀{pl:List (Addr×Obj)}{H':Hp},(∀p∈pl,s2.heap.objs.size<=p.1)->(∀b∈fp,H' b=none)->∀b∈fp,FpOk Xc pl H' b:=λ{pl H'} hpl hn b hb=>by
  have k1:b≠HH.objs.size:=Yv (by rw[hC];exact YV (hfl b hb))
  have k2:b∉frs X.stack:=λq=>by
   rcases Yk.mp (I2.Zfn b q)with z|z
   ·exact(f2 b hb).2.1 z
   ·exact(f2 b hb).2.2.1 z
  rw[<-hXc]
  refine⟨hn b hb,k1,k2,.inl hb,λx c e=>(up _ _ e).elim (λz=>(f2 b hb).2.2.2.2.1 x c z) λz=>Nat.ne_of_gt (Nat.lt_trans (by rw[hC];exact YV (hfl b hb)) z.1),λp hp=>?_⟩
  have hp':p∈pl:=by simpa[ZaA,Zl5]using hp
  exact Nat.ne_of_gt (Yw (hfl b hb) (hpl p hp'))
 have gX:PG Xc tg g:=hXc▸hg cs HH.objs.size s2 H2 fp
 have tX:ZkS Xc ifs tt:=hXc▸ht cs HH.objs.size s2 H2 fp
 have eX:PE Xc elt te:=hXc▸he cs HH.objs.size s2 H2 fp
 have hs0:Xc.s₀=s2:=by rw[<-hXc];rfl
 have hh0:Xc.H₀=H2:=by rw[<-hXc];rfl
 have hfs:Xc.fs=frs X.stack:=by rw[<-hXc];rfl
 have hex:Xc.ex=fp:=by rw[<-hXc];rfl
 have loop:codeAny (model X.prog X.w) X.A (.compLoop (.ListComp elt [⟨tg,iter,ifs,0⟩] scope pos) 0 (.ref it) (.ref s2.heap.objs.size) (compEnvC scope cs HH.objs.size X.env)) (compPost (model X.prog X.w) X.A X.xe use QQ (.ref s2.heap.objs.size) HH.objs.size)
   {s2 with heap:=h₁,toks:=s2.toks}:=by
  refine ZdA (λn s'=>∃i acc its nn H',Inv Xc [(s2.heap.objs.size,{cls:=.type "list",dict:=none,data:=.seq (its:List Value).toArray nn})] (ZcX js σ) H' s'/\Vals acc its/\acc.length<=sizeLine/\tn i s'.heap/\(∀b∈fp,H' b=none)/\W i n acc H') ?_ m0
   ⟨0,[],[],0,H2,I4,.nil,Yr _,st4,λb hb=>(f2 b hb).1,w0⟩
  rintro n s3 ⟨i,acc,its,nn,H3,I3,va,hlen,st3,fr3,w3⟩
  have pg:∀p∈([(s2.heap.objs.size,{cls:=.type "list",dict:=none,data:=.seq its.toArray nn})]:List (Addr×Obj)),s2.heap.objs.size<=p.1:=λp hp=>by
   simp only[Yk,List.not_mem_nil,or_false]at hp
   subst hp;exact Ya _
  rcases turn i n acc H3 w3 with⟨stop,hl,qn⟩|⟨go,hl,step⟩
  ·have q:=T.done Xc hXp hXw hXk hXcalm i _ s3 (ZcX js σ) H3 (λ_ _=>False) I3 (fpok pg fr3) st3 stop
   rw[hXA]at q
   refine thn q λr s4 ⟨hr,I5⟩=>?_
   subst hr
   have hpin:=I5.pin _ (Yy _ (.head _))
   obtain⟨m5,hn5,_⟩:=I5.loc
   rw[hXe]at hn5
   refine fin _ _ H3 H2 s2 s4 acc m5 I2 (by have:=I5.free;rw[hXe]at this;exact this) hC rfl hn5 (λh' hsb=>?_) (qn _ hpin.2.1)
   have same:∀b o,b≠HH.objs.size->s4.heap.get? b=some o->h'.get? b=some o:=λb o hb e=>hsb.extBut b o hb e
   have un:=I5.base
   rw[hfs,hex,hh0,hs0]at un
   have lt:∀b o,s2.heap.get? b=some o->b<s2.heap.objs.size:=λb o e=>Yi e
   have neC:∀b o,s2.heap.get? b=some o->b≠HH.objs.size:=λb o e=>Yv (by rw[hC];exact YV (lt b o e))
   have neD:∀b o,s2.heap.get? b=some o->b≠s2.heap.objs.size:=λb o e=>Yv (lt b o e)
   have trkC:∀b o,H3 b=some o->b≠HH.objs.size:=λb o e z=>by
    have:=I5.free;rw[hXe]at this;rw[z,show H3 HH.objs.size=none from this]at e;cases e
   refine I2.call' (s':={s4 with heap:=h'}) (ch:=fp) (I5.os.trans (by rw[hs0])) ⟨λb o e n hb hx=>same _ _ (neC b o e) (un.keep b o e n hb hx),λb o e n hb hx=>?_,λb o e n hx=>by rw[Zq (neD b o e)];exact un.free b o e n hx,λb o e hx=>?_,λb xs e=>?_,λb o u e=>?_,λb ps e=>?_⟩ (λa o e=>?_) I5.bare λb hb=>⟨(f2 b hb).2.2.2.1,(f2 b hb).2.1,(f2 b hb).2.2.2.2.1,(f2 b hb).2.2.2.2.2⟩
   ·obtain⟨sl,z⟩:=un.slot b o e n hb hx
    exact⟨sl,same _ _ (neC b o e) z⟩
   ·obtain⟨o',z⟩:=un.there b o e hx
    exact⟨o',same _ _ (neC b o e) z⟩
   ·rw[Zq (Yv (I2.hok.lt e))];exact un.tups b xs e
   ·rw[Zq (Yv (I2.hok.lt e))];exact un.frzs b o u e
   ·obtain⟨more,z⟩:=un.tbls b ps e
    exact⟨more,by rw[Zq (Yv (I2.hok.lt e))];exact z⟩
   ·by_cases ha:a=s2.heap.objs.size
    ·subst ha
     rw[Zb]at e;cases e
     exact⟨hl,its,nn,va,same _ _ hDC hpin.1⟩
    ·rw[Zq ha]at e
     have q:=I5.hok a o e
     rw[hXp,hXw]at q
     refine q.ZhC (λb u hb z=>same b u ?_ z) (λb z=>by rw[Zq];exact z;intro y;subst y;rw[hpin.2.1]at z;cases z) (λb xs z=>by rw[Zq];exact z;intro y;subst y;rw[hpin.2.1]at z;cases z) λb o u z=>by rw[Zq];exact z;intro y;subst y;rw[hpin.2.1]at z;cases z
     rcases hb with hb|hb
     ·subst hb;exact trkC _ _ e
     ·exact trkC _ _ hb
  ·have q:=T.item Xc hXp hXw hXk hXcalm i _ s3 (ZcX js σ) H3 (λ_ _=>False) I3 (fpok pg fr3) st3 go
   rw[hXA]at q
   refine thn q λr s4 ⟨u,hr,h4⟩=>?_
   subst hr
   refine thn h4 λ_ s5 ⟨x,H5,I5,r5,y5,st5,fr5⟩=>?_
   have I5':=I5.pinned (fpok pg fr5) (T.obj _ _ st5)
   have again:∀{σ7:St}{H7:Hp}{s7:Shared}{acc7:List V}{its7:List Value}{n7:Nat}{m:Nat},Inv Xc ([(s2.heap.objs.size,{cls:=.type "list",dict:=none,data:=.seq its7.toArray n7})]++Zdx fp s5.heap) σ7 H7 s7->Vals acc7 its7->acc7.length<=sizeLine->W (i+1) m acc7 H7->σ7.length=(ZcX js σ).length->(∀(k:Nat) v,(ZcX js σ)[k]?=some (some v)->σ7[k]?=some (some v)) ->
     ∃i acc its nn H',Inv Xc [(s2.heap.objs.size,{cls:=.type "list",dict:=none,data:=.seq (its:List Value).toArray nn})] (ZcX js σ) H' s7/\Vals acc its/\acc.length<=sizeLine/\tn i s7.heap/\(∀b∈fp,H' b=none)/\W i m acc H':=λ{σ7 H7 s7 acc7 its7 n7 m} I7 v7 l7 w7 hl7 hw7=>by
    refine⟨i+1,acc7,its7,n7,H7,(I7.weak hl7.symm hw7).Zdy,v7,l7,T.keep _ _ _ st5 λb hb o e=>(I7.pin (b,o) (Yy _ (Yy _ (ZcV hb e)))).1,λb hb=>?_,w7⟩
    obtain⟨o,e,d⟩:=T.obj _ _ st5 b hb
    exact(I7.pin (b,o) (Yy _ (Yy _ (ZcV hb e)))).2.1
   have keep:∀{σ6:St},Zcx L (ZcX js σ) σ6->σ6.length=(ZcX js σ).length/\∀(k:Nat) v,(ZcX js σ)[k]?=some (some v)->σ6[k]?=some (some v):=λ{σ6} hk=>⟨hk.1,λk v e=>by
    rw[hk.2 k]
    ·exact e
    ·intro z
     have q:=List.all_eq_true.mp hL k z
     simp only[beq_iff_eq]at q
     unfold ZcX at e
     rw[Yt,q]at e
     cases e⟩
   have q6:=gX _ s5 (ZcX js σ) H5 x u _ I5' r5 (ho _ _ _ _ _ (fun σ' H' kk z=>And.intro kk z) (step x H5 y5))
   rw[hXe,hXA,hXp,hXw,hXx]at q6
   refine thn q6 λ_ s6 ⟨σ6,H6,I6,k6,q6⟩=>?_
   obtain⟨kl,kv⟩:=keep k6
   have q7:=tX _ s6 σ6 H6 _ I6 q6
   rw[hXe,hXA,hXp,hXw,hXx]at q7
   refine thn q7 λb s7 ⟨H7,I7,q7⟩=>?_
   cases b with
   |false =>
    obtain⟨m',hm,w7⟩:=q7
    exact⟨m',hm,again I7 va hlen w7 kl kv⟩
   |true =>
    have q8:=eX _ s7 σ6 H7 _ I7 q7
    rw[hXe,hXA,hXp,hXw,hXx]at q8
    refine thn q8 λy s8 ⟨v8,H8,I8,r8,m',hm,w8⟩=>?_
    have pinD:=I8.pin _ (Yy _ (YF _ (.head _)))
    have hnf:∀p∈Zdx fp s5.heap,p.1≠s2.heap.objs.size:=λp hp=>by
     obtain⟨z,_⟩:=Zhh hp
     exact Yv (hfl _ z)
    have va':=va.length
    refine call_meets F.slot_list_append ⟨_,pinD.1,rfl⟩ F.entry_list_append (F.args_list_append_2 _ _) (PySem.list_append s2.heap.objs.size its.toArray nn y (by rw[Ym];omega)) ⟨pinD.1,?_⟩
    have e9:=PySem.IsL.update pinD.1 (λa=>a.push y)
    have e9':its.toArray.push y=(its++[y]).toArray:=by simp
    dsimp only at e9
    rw[e9']at e9
    have I8':Inv Xc (Zdx fp s5.heap) σ6 H8 s8:=I8.Ze0 λp hp=>I8.pin p (Yy _ (Yy _ hp))
    have hXpn:Xc.pn=[]:=by rw[<-hXc];rfl
    have hXs:s2.heap.objs.size∉frs X.stack:=by rw[<-hfs];exact pinD.2.2.2.1
    have I9:=I8'.turned (t':=s8.toks) (it:=s2.heap.objs.size) (h':=s8.heap.update s2.heap.objs.size (Obj.mapSeq λa=>a.push y)) (λb o hb e=>(Heap.get?_update_other s8.heap _ (Ne.symm hb)).trans e) pinD.2.1 pinD.2.2.1
     (.inr (by rw[hs0];exact Ya _)) (λx c e=>by
      rw[hXe]at e
      intro z
      rcases up _ _ e with y|y
      ·obtain⟨v,q⟩:=I2.cell x c y
       exact absurd q.lt (by rw[z];exact YE _)
      ·have:=y.1
       rw[z,hC]at this
       exact absurd this (Nat.not_lt_of_le (YT _))) (λp hp=>by rw[hXpn,List.nil_append]at hp;exact hnf p hp)
    have I10:=I9.Ze0 (pins':=[(s2.heap.objs.size,{cls:=.type "list",dict:=none,data:=.seq (its++[y]).toArray _})]++Zdx fp s5.heap) λp hp=>by
     rcases Yl.mp hp with z|z
     ·simp only[Yk,List.not_mem_nil,or_false]at z
      subst z
      exact⟨e9,pinD.2.1,pinD.2.2.1,pinD.2.2.2.1,by intro v z;cases z⟩
     ·exact I9.pin p (Yy _ z)
    exact⟨m',hm,again I10 (va.append (.cons r8 .nil)) (by rw[YJ,List.length_singleton];omega) w8 kl kv⟩
 exact codeAny_compStart_list loop (T.self _ 0 _ _ _ st4 loop)
theorem Zai {tg elt iter:Expr}{ifs:List Expr}{scope:Scope}{pos:Pos}{wi:TI}{g:TG}{tt:TT}{te:TE} (Nc:List Str) (js:List (Option Nat)) {L:List Nat}
  (hc:X.calm=true) (hok:Za8 X.env.scope scope=true) (htk:Za6 X.N Nc scope js 0=true) (hi:PI X tg iter wi)
  (hg:∀cl C s2 H2 fp,PG (ZaA X Nc scope cl C s2 H2 fp) tg g) (ht:∀cl C s2 H2 fp,ZkS (ZaA X Nc scope cl C s2 H2 fp) ifs tt) (he:∀cl C s2 H2 fp,PE (ZaA X Nc scope cl C s2 H2 fp) elt te)
  (ho:Zhn g L) (hL:(L.all λk=>js[k]?==some none)=true:=by rfl) (hs:∀x,foldedSetIterable iter X.env x=pure x:=by intro _;rfl):PE X (.ListComp elt [⟨tg,iter,ifs,0⟩] scope pos) (Zkm wi g tt te js):=by
 intro pins s σ H Q I h
 rw[eval_ListComp]
 exact Zhs (use:=none) hc hok htk hi hg ht he hs ho hL I h λD C H' H2 s2 s' xs m I2 hHC e1 e2 hn hI q=>⟨m,hn,λh' hsb=>⟨.ref D,_,hI h' hsb,rfl,q⟩⟩
theorem Za9 {i:Nat}{x:Str}{pos' spos:Pos}{tg elt iter:Expr}{ifs:List Expr}{scope:Scope}{pos:Pos}{wi:TI}{g:TG}{tt:TT}{te:TE} (Nc:List Str) (js:List (Option Nat)) {L:List Nat}
  (hN:X.N.Nodup) (hxi:X.N[i]?=some x) (hx:Loc X.env.scope x)
  (hc:X.calm=true) (hok:Za8 X.env.scope scope=true) (htk:Za6 X.N Nc scope js 0=true) (hi:PI X tg iter wi)
  (hg:∀cl C s2 H2 fp,PG (ZaA X Nc scope cl C s2 H2 fp) tg g) (ht:∀cl C s2 H2 fp,ZkS (ZaA X Nc scope cl C s2 H2 fp) ifs tt) (he:∀cl C s2 H2 fp,PE (ZaA X Nc scope cl C s2 H2 fp) elt te)
  (ho:Zhn g L) (hL:(L.all λk=>js[k]?==some none)=true:=by rfl) (hs:∀x,foldedSetIterable iter X.env x=pure x:=by intro _;rfl)
  (hsw:swapsWith (.ListComp elt [⟨tg,iter,ifs,0⟩] scope pos) (some (.Name x pos')) spos.line X.env=pure true:=by rfl)
  (hf:X.fn x=true\/X.env.scope.names.lookup x=some .local:=by first|exact .inl rfl|exact .inr rfl|assumption) :
  PS X (.Assign [.Name x pos'] (.ListComp elt [⟨tg,iter,ifs,0⟩] scope pos) spos) (tAsg (Zkm wi g tt te js) (Zgd i)):=by
 intro pins s σ H D I h
 rw[exec_Assign_Name_used _ _ _ _ hsw]
 refine Yf (wpAny_standAt (Yf ?_))
 show wpAny _ _ (comprehension _ _ _ _ _ _ _ _ >>= _) _ _ _
 refine Yf (thn (Q:=λ_ s'=>∃σ' H',Inv X pins σ' H' s'/\D.nx σ' H') (Zhs (Q:=λv H1=>Zgd i v σ H1 D.nx) (use:=some (assign (.Name x pos') X.env)) hc hok htk hi hg ht he hs ho hL I h ?_) λ_ s' ⟨σ',H',I',q⟩=>Yq (Yq ⟨σ',H',I',q⟩))
 intro D' C H' H2 s2 s' xs m I2 hHC e1 e2 hn hI q
 obtain⟨oC,es,ep,hoC,hdC,hrest⟩:=id hn
 have leC:s2.heap.objs.size<=C:=by rw[e1,e2];exact YT _
 have ltC:s2.heap.objs.size<C:=by rw[e1,e2];exact Nat.lt_succ_self _
 have neDC:C≠D':=by rw[e2];exact Nat.ne_of_gt ltC
 have fresh:s2.heap.get? C=none:=by
  cases e:s2.heap.get? C with
  |none=>rfl
  |some o=>exact absurd (Yw (Yi e) leC) (YE _)
 have neL:C≠X.env.locals:=Nat.ne_of_gt (Yw I2.lt leC)
 have nfs:C∉X.fs:=I2.nofs leC
 have ncl:∀x c,X.env.cells.lookup x=some c->c≠C:=λx c e z=>by
  obtain⟨v,q⟩:=I2.cell x c e
  exact absurd (Yw q.lt leC) (by rw[z];exact YE _)
 have npn:∀p∈X.pn++pins,p.1≠C:=λp hp z=>by
  have:=(I2.pin p hp).1
  rw[z,fresh]at this;cases this
 have hH:(upd H' D' (HO.lst xs)) C=none:=by rw[Zq neDC];exact hHC
 have I0:=hI s'.heap ZhN
 have I1:Inv X (pins++[(C,oC)]) σ (upd H' D' (.lst xs)) s':=I0.Ze0 λp hp=>by
  rcases Yl.mp hp with z|z
  ·exact I0.pin p (Yy _ z)
  ·simp only[Yk,List.not_mem_nil,or_false]at z
   subst z
   exact⟨hoC,hH,neL,nfs,λv z=>by rw[hdC]at z;cases z⟩
 show wpAny _ _ _ _ _ _
 refine thn (Zm (X:=X) (i:=i) hN hxi hx hf (pins++[(C,oC)]) s' σ _ (.ref D') (.ref D') _ I1 rfl q) λ_ s3 ⟨σ3,H3,I3,q3⟩=>?_
 have pC:=I3.pin (C,oC) (Yy _ (Yy _ (.head _)))
 refine⟨m,⟨oC,es,ep,pC.1,hdC,hrest⟩,λh' hsb=>⟨σ3,H3,?_,q3⟩⟩
 exact I3.Zdy.turned (t':=s3.toks) (it:=C) (λb o hb e=>hsb.extBut b o hb e) pC.2.1 neL (.inr (Yh I2.sz leC)) ncl npn
end
end L2
namespace L2
open PySem PySem.Spec PyProof.Rows PySem.W
noncomputable def CF (n:Nat) (P:Nat->Bool) (vals:Nat->V) (H1:Hp) (i m:Nat) (acc:List V) (H:Hp):Prop:=m=n-i/\i<=n/\acc=((List.range i).filter P).map vals/\Zf H1 H
theorem CF.take {n:Nat}{P:Nat->Bool}{vals:Nat->V}{H1 H:Hp}{i:Nat}{v:V} (hi:i<n) (hP:P i=true) (hv:v=vals i) (s:Zf H1 H):∃m',m'<n-i/\CF n P vals H1 (i+1) m' (((List.range i).filter P).map vals++[v]) H :=
 ⟨n-(i+1),by omega,rfl,hi,by rw[YU,List.filter_append,YG,hv];simp[hP],s⟩
theorem CF.skip {n:Nat}{P:Nat->Bool}{vals:Nat->V}{H1 H:Hp}{i:Nat} (hi:i<n) (hP:P i=false) (s:Zf H1 H):∃m',m'<n-i/\CF n P vals H1 (i+1) m' (((List.range i).filter P).map vals) H :=
 ⟨n-(i+1),by omega,rfl,hi,by rw[YU,List.filter_append,YG];simp[hP],s⟩
theorem ZcQ {J:It}{n:Nat}{H1:Hp}{g:TG}{tt:TT}{te:TE}{σ0:St}{Q:VK} (P:Nat->Bool) (vals:Nat->V) (hn:n<sizeLine) (hgo:∀i H,Zf H1 H->i<n->J.go i H) (hstop:∀H,Zf H1 H->J.stop n H)
  (hb:∀i x H H',i<n->Zf H1 H->J.yld i H x H'->g x σ0 H' fun σ2 H2=>tt σ2 H2 λb H3=>if b=true then te σ2 H3 λv H4=>∃m',m'<n-i/\CF n P vals H1 (i+1) m' (((List.range i).filter P).map vals++[v]) H4 else ∃m',m'<n-i/\CF n P vals H1 (i+1) m' (((List.range i).filter P).map vals) H3)
  (hk:∀l H',Zf H1 H'->H' l=none->Q (.ref l) (upd H' l (.lst (((List.range n).filter P).map vals)))) :
  ZdB J g tt te σ0 Q H1:=by
 refine⟨CF n P vals H1,⟨n,rfl,Yr _,rfl,Zf.refl _⟩,?_⟩
 rintro i m acc H ⟨rfl,hi,rfl,s⟩
 have hlen:(((List.range i).filter P).map vals).length<=n:=by
  rw[Yc]
  have:=Y3 P (List.range i)
  rw[Y2]at this
  omega
 by_cases h:i<n
 ·exact .inr ⟨hgo i H s h,by omega,λx H' y=>hb i x H H' h s y⟩
 ·have:i=n:=by omega
  subst this
  exact .inl ⟨hstop H s,by omega,λp hp=>hk p H s hp⟩
theorem ZbG.over {f:Nat->Int}{a b lo p:Nat} (h:ZbG f a b lo) (h1:a<=p) (h2:p<=b) (hne:p≠lo):Over f lo p:=by
 obtain⟨l1,l2,l3,l4⟩:=h
 rcases Nat.lt_or_gt_of_ne hne with z|z
 ·exact .inr ⟨z,λr r1 r2=>l3 r (by omega) r2⟩
 ·exact .inl ⟨z,λr r1 r2=>l4 r r1 (by omega)⟩
theorem ZiI {ns T:List Int}{g:Nat->Int} (hT:ZR ns T) (hg:∀q p,q<ns.length->p<ns.length->Over (nth ns) q p->(q<p->g q<=g p)/\(p<q->g q<g p)):∀p,p<ns.length->ZN g ns.length p (T.getD p 0):=by
 intro p hp
 have pv:∀q,Zac (nth ns) p q->Zac g p q:=λq h=>by
  refine⟨h.1,(hg q p (by have:=h.1;omega) hp (.inl ⟨h.1,λr r1 r2=>?_⟩)).1 h.1,λr r1 r2=>(hg p r hp (by omega) (.inr ⟨r2,λs s1 s2=>h.2.2 s (by omega) s2⟩)).2 r2⟩
  by_cases z:r=p
  ·rw[z];exact h.2.1
  ·have:=h.2.2 r r1 (by omega);have:=h.2.1;omega
 have nx:∀r,ZaO (nth ns) ns.length p r->ZaO g ns.length p r:=λq h=>by
  refine⟨h.1,h.2.1,(hg q p h.2.1 hp (.inr ⟨h.1,λr r1 r2=>?_⟩)).2 h.1,λs s1 s2=>(hg p s hp (by have:=h.2.1;omega) (.inl ⟨s1,λr r1 r2=>h.2.2.2 r r1 (by omega)⟩)).1 s1⟩
  by_cases z:r=p
  ·rw[z];exact h.2.2.1
  ·have:=h.2.2.2 r (by omega) r2;have:=h.2.2.1;omega
 have np:Zcy (nth ns) p->Zcy g p:=λh q hq=>(hg p q hp (by omega) (.inr ⟨hq,λr r1 r2=>h r r2⟩)).2 hq
 have nn:ZcY (nth ns) ns.length p->ZcY g ns.length p:=λh r r1 r2=>(hg p r hp r2 (.inl ⟨r1,λs s1 s2=>h s s1 (by omega)⟩)).1 r1
 have hE:ZN (nth ns) ns.length p (T.getD p 0):=hT.2 p hp
 rcases hE with⟨h1,h2,h⟩|⟨q,h1,h2,h⟩|⟨r,h1,h2,h⟩|⟨q,r,h1,h2,h⟩
 ·exact .inl ⟨np h1,nn h2,h⟩
 ·exact .inr (.inl ⟨q,pv q h1,nn h2,h⟩)
 ·exact .inr (.inr (.inl ⟨r,np h1,nx r h2,h⟩))
 ·refine .inr (.inr (.inr ⟨q,r,pv q h1,nx r h2,?_⟩))
  rw[h]
  have hq:q<ns.length:=by have:=h1.1;omega
  have hqr:q<r:=by have:=h1.1;have:=h2.1;omega
  by_cases z:nth ns q<=nth ns r
  ·have:=(hg q r hq h2.2.1 (.inl ⟨hqr,λs s1 s2=>by
    by_cases y:s=r
    ·rw[y];exact z
    ·by_cases y2:s=p
     ·rw[y2];exact h1.2.1
     ·have:=h1.2.1
      by_cases y3:s<p
      ·have:=h1.2.2 s s1 y3;omega
      ·have:=h2.2.2.2 s (by omega) (by omega);omega⟩)).1 hqr
   rw[Yd z,Yd (by omega)]
  ·have:=(hg r q h2.2.1 hq (.inr ⟨hqr,λs s1 s2=>by
    have:=h1.2.1;have:=h2.2.2.1
    by_cases y:s=q
    ·rw[y];omega
    ·by_cases y2:s=p
     ·rw[y2];omega
     ·by_cases y3:s<p
      ·have:=h1.2.2 s (by omega) y3;omega
      ·have:=h2.2.2.2 s (by omega) (by omega);omega⟩)).2 hqr
   rw[Ye z,Ye (by omega)]
end L2
namespace HT
open PySem PyProof.Rows
section
open PySem.SeqAt
open PySem.AutoSeq1 (wpAny_loadPart')
open PySem.MeetsSeq PySem.MeetsSeq2 PySem.MeetsSeq3
variable {prog:Program}{w:World}{A:Around}{E:Value->Shared->Prop}{s:Shared}
end
end HT
namespace L2
open PySem PySem.Spec PyProof.Rows PySem.W
section
variable {X:Cx}{tg l:Expr}{tl:TE}
theorem Zml {K:Frag} (hK:X.K=K) (hl:PE X l tl):PI X tg l (ZlV K tl):=hK▸Zbt hl
end
theorem ZiJ (T:List Int):∀k a,(Zca T k a).length<k->Zca T (k+1) a=Zca T k a
 |0,_,h=>by omega
 |k+1,a,h=>by
  rw[Zca]at h⊢
  by_cases z:0<=a/\a<T.length
  ·rw[Yd z]at h⊢
   rw[ZiJ T k _ (by simpa using h),Zca,Yd z]
  ·rw[Ye z]at h⊢
   rw[Zca,Ye z]
noncomputable def way (T:List Int) (p:Nat):List Nat:=Zca T T.length (nth T p)
theorem Zmm {ns T:List Int} (hT:ZR ns T) {p q:Nat} (hp:p<ns.length) (h:nth T p=q):way T p=q::way T q:=by
 have hE:ZN (nth ns) ns.length p (q:Int):=h▸hT.2 p hp
 have hq:q<ns.length:=by
  rcases ZbS hp hE with z|⟨q',e,z,_⟩<;>omega
 have hd:=Zft hp hE
 have hl:=Zjy (f:=nth ns) hp
 unfold way
 rw[h,hT.1]
 obtain⟨k,hk⟩:∃k,ns.length=k+1:=⟨ns.length-1,by omega⟩
 rw[hk,Zca,Yd ⟨by omega,by rw[hT.1];omega⟩,show((q:Nat):Int).toNat=q by omega]
 rw[ZiJ T k (nth T q)]
 rw[(Zgm hT k q hq (by omega)).2]
 omega
theorem ZiK (T:List Int) (p:Nat):wayI T p=(way T p).map λq=>((q:Nat):Int):=rfl
theorem ZdC {ns T:List Int} (hT:ZR ns T) {p:Nat} (hp:p<ns.length):nth T p=-1\/∃q:Nat,nth T p=q/\q<ns.length/\Over (nth ns) q p/\dep (nth ns) ns.length p=dep (nth ns) ns.length q+1:=by
 rcases ZbS hp (hT.2 p hp)with z|⟨q,e,hq,hO⟩
 ·exact .inl z
 ·have e':nth T p=(q:Int):=e
  have hE:ZN (nth ns) ns.length p (q:Int):=e'▸hT.2 p hp
  exact .inr ⟨q,e,hq,hO,Zft hp hE⟩
noncomputable def Zbx (T:List Int) (p:Nat):Nat:=((way T p).filter λo=>decide (p<o)).length
noncomputable def Zau (T:List Int):List Int:=(List.range T.length).map λp=>(Zbx T p:Int)
theorem Zfw (T:List Int):(Zau T).length=T.length:=by simp[Zau]
theorem Zht {T:List Int}{p:Nat} (h:p<T.length):nth (Zau T) p=Zbx T p:=by simp[nth,Zau,Yj,h]
theorem ZcR {P Q:Nat->Bool}{l:List Nat} (h:∀x∈l,P x=Q x):(l.filter P).length=(l.filter Q).length:=by
 rw[List.filter_congr h]
theorem Zgo {ns T:List Int} (hT:ZR ns T) {p o:Nat} (hp:p<ns.length):o∈way T p↔o<ns.length/\Over (nth ns) o p:=by
 unfold way
 rw[hT.1]
 exact(Zgm hT ns.length p hp (YY (Zjy hp))).1 o
theorem Zk8 {f:Nat->Int}{o q p:Nat} (h:Over f o q) (k:Over f q p):(p<q->p<o->q<o)/\(q<p->q<o->p<o):=by
 refine⟨λh1 h2=>Nat.lt_of_not_le λz=>?_,λh1 h2=>Nat.lt_of_not_le λz=>?_⟩
 ·rcases h with⟨a,b⟩|⟨a,b⟩
  ·rcases k with⟨c,d⟩|⟨c,d⟩
   ·omega
   ·have:=d o (by omega) a;have:=b q a (Ya _);omega
  ·omega
 ·rcases h with⟨a,b⟩|⟨a,b⟩
  ·omega
  ·rcases k with⟨c,d⟩|⟨c,d⟩
   ·have:=d o h2 z;have:=b q (Ya _) a;omega
   ·omega
theorem Zk9 {ns T:List Int} (hT:ZR ns T) {p q:Nat} (hp:p<ns.length) (hq:q<ns.length) (h:nth T p=q) (hO:Over (nth ns) q p):Zbx T p=Zbx T q+if p<q then 1 else 0:=by
 unfold Zbx
 rw[Zmm hT hp h,List.filter_cons]
 have e:((way T q).filter λo=>decide (p<o)).length=((way T q).filter λo=>decide (q<o)).length:=by
  refine ZcR λo ho=>?_
  have ho':=((Zgo hT hq).mp ho).2
  have hs:=Zk8 ho' hO
  have hne:=hO.ne
  have hne2:=ho'.ne
  rw[Bool.eq_iff_iff,decide_eq_true_eq,decide_eq_true_eq]
  rcases Nat.lt_or_gt_of_ne hne with z|z
  ·exact⟨λy=>by omega,λy=>hs.2 z y⟩
  ·exact⟨λy=>hs.1 z y,λy=>by omega⟩
 by_cases z:p<q
 ·rw[Yd (by simpa using z),Yd z,YN,e]
 ·rw[Ye (by simpa using z),Ye z,e,Nat.add_zero]
theorem Zmn {ns T:List Int} (hT:ZR ns T) {R:Nat->Nat->Prop} (h1:∀p q,p<ns.length->q<ns.length->nth T p=q->Over (nth ns) q p->R q p) (h2:∀o q p,Over (nth ns) o q->Over (nth ns) q p->R o q->R q p->R o p) :
  ∀d p o,p<ns.length->o<ns.length->dep (nth ns) ns.length p=d->Over (nth ns) o p->R o p:=by
 intro d
 induction d with
 |zero =>
  intro p o hp ho hd hO
  rcases ZdC hT hp with z|⟨q,e,hq,hOq,hdq⟩
  ·exact absurd hO (Zeh hp ho (z▸hT.2 p hp))
  ·omega
 |succ d ih =>
  intro p o hp ho hd hO
  rcases ZdC hT hp with z|⟨q,e,hq,hOq,hdq⟩
  ·exact absurd hO (Zeh hp ho (z▸hT.2 p hp))
  ·rcases(Zgk hp ho (show ZN (nth ns) ns.length p (q:Int)from(show T.getD p 0=(q:Int)from e)▸hT.2 p hp)).mp hO with y|y
   ·rw[y];exact h1 p q hp hq e hOq
   ·exact h2 o q p y hOq (ih q o hq ho (by omega) y) (h1 p q hp hq e hOq)
theorem Zla {ns T:List Int} (hT:ZR ns T) {p o:Nat} (hp:p<ns.length) (ho:o<ns.length) (hO:Over (nth ns) o p):Zbx T o<=Zbx T p/\(p<o->Zbx T o<Zbx T p):=by
 refine Zmn hT (R:=λo p=>Zbx T o<=Zbx T p/\(p<o->Zbx T o<Zbx T p)) (λp q hp hq e hO=>?_) (λo q p h1 h2 r1 r2=>?_) _ p o hp ho rfl hO
 ·have:=Zk9 hT hp hq e hO
  refine⟨by omega,λz=>?_⟩
  rw[Yd z]at this;omega
 ·refine⟨Yh r1.1 r2.1,λz=>?_⟩
  by_cases y:p<q
  ·have:=r2.2 y;have:=r1.1;omega
  ·have hne:=h2.ne
   have:=r1.2 (by omega);have:=r2.1;omega
theorem Zhu {ns T:List Int} (hT:ZR ns T):ZR (Zau T) T:=by
 have eT:T.length=ns.length:=hT.1
 refine⟨by rw[Zfw],λp hp=>?_⟩
 rw[Zfw,eT]at hp⊢
 refine ZiI hT (λq p hq hp hO=>?_) p hp
 have:=Zla hT hp hq hO
 rw[Zht (by omega),Zht (by omega)]
 exact⟨λ_=>by omega,λz=>by have:=this.2 z;omega⟩
section
variable {X:Cx}{pins:List (Addr×Obj)}{σ:St}{H:Hp}{s:Shared}{h':Heap}
theorem Inv.ZnW {t':Nat}{fp:List Addr}{T:Addr}{o:HO} (I:Inv X pins σ H s) (k:∀b u,b∉fp->s.heap.get? b=some u->h'.get? b=some u) (hf:∀b∈fp,FpOk X pins H b) (hT:s.heap.objs.size<=T) (new:Zas X.prog X.w (upd H T o) h' T o) :
  Inv X pins σ (upd H T o) {s with heap:=h',toks:=t'}:=by
 have nit:∀b u,H b=some u->b∉fp:=λb u e z=>by rw[(hf b z).1]at e;cases e
 have hfr:H T=none:=I.hok.fresh hT
 have neT:∀b u,s.heap.get? b=some u->b≠T:=λb u e z=>absurd (Yi e) (by rw[z];exact Nat.not_lt_of_le hT)
 have neH:∀b u,H b=some u->b≠T:=λb u e z=>by rw[z,hfr]at e;cases e
 refine I.step (g':=s.gens) (d':=s.drawn) (ch:=fp) (λb hb=>?_) (λb o _ _ hc e _=>k b o hc e) (λb o _ _ hc e _=>⟨o.slots,k b o hc e⟩) (λb u _ e n=>by rw[Zq (neT b u e)];exact n)
  (λb o hc e=>⟨o,k b o hc e⟩) (λb xs e=>by rw[Zq (neH b _ e)];exact e) (λb o u e=>by rw[Zq (neH b _ e)];exact e) (λb ps e=>⟨#[],by rw[Zq (neH b _ e),e];simp⟩) (λm hm=>?_) (λb u e=>?_) I.bare
 ·obtain⟨_,f1,_,f3,f4,f5⟩:=hf b hb
  exact⟨f3,f1,f4,f5⟩
 ·obtain⟨o,es,ep,ho,r⟩:=hm
  exact⟨o,es,ep,k _ o (λz=>(hf _ z).2.1 rfl) ho,r⟩
 ·by_cases z:b=T
  ·subst z
   rw[Zb]at e;cases e
   exact new
  ·rw[Zq z]at e
   refine(I.hok b u e).ZhC (λc v hc q=>k c v ?_ q) (λc q=>?_) (λc xs q=>?_) λc o u q=>?_
   ·rcases hc with y|y
    ·rw[y];exact nit b u e
    ·exact nit c _ y
   ·rw[Zq (neH _ _ q)];exact q
   ·rw[Zq (neH _ _ q)];exact q
   ·rw[Zq (neH _ _ q)];exact q
noncomputable def Ite (K : Frag) (a : Addr) : It :=
  ⟨fun i H => ∃ xs x, SqL K H a xs ∧ xs[i]? = some x,
   fun i H v H' => ∃ p x, H p = none ∧ v = .ref p ∧ H' = upd H p (.tup [.int (i : Int), x]) ∧ ∀ xs, SqL K H a xs → xs[i]? = some x,
   fun i H => ∃ xs, SqL K H a xs ∧ xs.length = i⟩
theorem Zlb {P:Program}{w:World}{K:Frag}{elts:List Expr} {x1}{pos:Pos}{a e it:Addr} (h1:e≠it) (h2:a≠e) (h3:a≠it) :
  Turn P w K (.Tuple elts x1 pos) (Ite K a) [e,it] e (λi h=>(∃old,IsEnum h e it (i:Int) old)/\h.IsListIter it a i) where
 mem:=by simp
 obj:=λi h st c hc=>by
  obtain⟨⟨old,q1⟩,⟨o4,q4,_,d4⟩⟩:=st
  simp at hc
  rcases hc with rfl|rfl
  ·exact⟨_,q1,λv z=>by cases z⟩
  ·exact⟨_,q4,λv z=>by rw[d4]at z;cases z⟩
 keep:=λi h h' st k=>by
  obtain⟨⟨old,q1⟩,q4⟩:=st
  exact⟨⟨old,k e (by simp) _ q1⟩,q4.at λo z=>k it (by simp) o z⟩
 item:=by
  intro X hP hw hK hc i pins s σ H E I hf st hg
  subst hP hw hK
  obtain⟨xs,x,qa,hx⟩:=hg
  obtain⟨is1,r1,p1,hz1⟩:=I.list qa
  obtain⟨u,hu,ru⟩:=r1.get hx
  have W:=WalksT.enumerate (prog:=X.prog) (w:=X.w) (I.ok.hd hc) e it a h1 h2 h3 is1.toArray
  have hi:i<is1.toArray.size:=by
   have:=(Yn.mp hu).1
   simpa using this
  refine W.item i s _ E hi ⟨st.1,st.2,p1.isList⟩ λT vals h' tk Pt hT hTup Mid keep=>⟨_,rfl,W.go elts x1 pos i T _ _ E Mid λh2' St2 keep2=>?_⟩
  obtain⟨t,y,hy,rfl⟩:=Pt
  have hyu:y=u:=by
   have:is1[i]?=some y:=by simpa using hy
   rw[hu]at this;exact(Yx this).symm
  subst hyu
  have nT:=W.apart i T h' Mid
  have hfr:H T=none:=I.hok.fresh hT
  have kk:∀b o,b∉[e,it]->s.heap.get? b=some o->h2'.get? b=some o:=λb o hb q=>keep2 b o hb (keep b o hb q)
  have nTe:∀c∈[e,it],c≠T:=λc hc z=>nT (z▸hc)
  refine⟨.ref T,_,Inv.ZnW (s:=s) (t':=tk) (o:=.tup [.int (i:Int),x]) I kk hf hT ?_,rfl,⟨T,x,hfr,rfl,rfl,λxs' q'=>?_⟩,⟨?_,St2.2.1⟩,λc hc=>?_⟩
  ·obtain⟨oT,q1,q2,n,q3⟩:=hTup
   exact⟨by show 2<=sizeLine;decide,[.int (i:Int) t,y],.cons ⟨t,rfl⟩ (.cons ru .nil),⟨oT,keep2 T oT nT q1,q2,n,q3⟩⟩
  ·rw[I.ZbQ q' qa];exact hx
  ·obtain⟨old,q⟩:=St2.1
   exact⟨old,by rw[show(((i+1:Nat)):Int)=(i:Int)+1 by omega]at *;exact q⟩
  ·rw[Zq (nTe c hc)];exact(hf c hc).1
 done:=by
  intro X hP hw hK hc i pins s σ H E I hf st hg
  subst hP hw hK
  obtain⟨xs,qa,hx⟩:=hg
  obtain⟨is1,r1,p1,_⟩:=I.list qa
  have W:=WalksT.enumerate (prog:=X.prog) (w:=X.w) (I.ok.hd hc) e it a h1 h2 h3 is1.toArray
  have hi:i=is1.toArray.size:=by
   have:=r1.length
   simp;omega
  refine W.done s _ E ?_ λh' tk keep=>⟨rfl,I.ZhQ (t':=tk) (fp:=[e,it]) (λc o hc q=>keep c o hc q) hf⟩
  rw[<-hi]
  exact⟨st.1,st.2,p1.isList⟩
 self:=λA i s Q E st h=>by
  obtain⟨⟨old,q⟩,_⟩:=st
  exact wpAny_pyIter_enum q h
noncomputable def iEnum (K:Frag) (ta:TA):TI:=fun σ H R=>ta σ H λvs H1=>∃a xs,vs=[.ref a]/\SqL K H1 a xs/\R (Ite K a) H1
theorem ZjA:bootBuiltins "enumerate"=some (.type "enumerate"):=by decide +kernel
theorem ZhY {K:Frag}{elts:List Expr} {x1}{tp:Pos}{e1:Expr}{ta:TA}{p pos:Pos} (hK:X.K=K) (hg:Gl X "enumerate") (hm:X.mg "enumerate"=none) (ha:PA X [e1] ta) (hs:starEach [e1] X.env=[(false,eval e1 X.env)]:=by rfl) :
  PI X (.Tuple elts x1 tp) (.Call (.Name "enumerate" p) [e1] [] pos) (iEnum K ta):=by
 subst hK
 intro pins s σ H R I h
 refine wpAny_Call_Name_kw (Zdu I hg hm ZjA ?_)
 refine PyProof.Rows.callWith_type1 (thn (ha pos pins s σ H _ I h) λus s1 ⟨vs,H1,I1,r1,a,xs,e1,qa,q⟩=>?_) hs rfl
 subst e1
 obtain⟨u,rfl,ru⟩:=r1.one
 cases(show u=Value.ref a from ru)
 obtain⟨is1,rr1,p1,_⟩:=I1.list qa
 refine call_enumerate_list p1.isList λh' c1 c2 c3 c4=>?_
 have l1:a<s1.heap.objs.size:=by obtain⟨o,e,_⟩:=p1.isList;exact Yi e
 have sm:∀b,s1.heap.objs.size<=b->FpOk X pins H1 b:=λb hb=>I1.Zjr hb (I1.hok.fresh hb)
 have n1:s1.heap.objs.size+1≠s1.heap.objs.size:=by show ¬ ((_:Nat)=_);omega
 have n2:a≠s1.heap.objs.size+1:=Yv (YV l1)
 have n3:a≠s1.heap.objs.size:=Yv l1
 have T:=Zlb (P:=X.prog) (w:=X.w) (K:=X.K) (elts:=elts) (x1:=x1) (pos:=tp) n1 n2 n3
 refine T.self _ 0 _ _ _ ⟨⟨_,c1⟩,c2⟩ ?_
 refine⟨_,[s1.heap.objs.size+1,s1.heap.objs.size],_,_,H1,rfl,I1.kept (t':=s1.toks) c4,T,⟨⟨_,c1⟩,c2⟩,λc hc=>?_,q⟩
 simp at hc
 rcases hc with rfl|rfl<;>exact sm _ (by omega)
end
section
variable {X:Cx}
noncomputable def Zku (K:Frag):V->List V->Hp->VK->Prop:=λx vs H Q=>∃(l:Addr) (xs:List V) (y:V) (j:Nat),x=.ref l/\vs=[y]/\SqL K H l xs/\xs.length<=100000/\xs.all flatV=true/\flatV y=true/\(∃z,xs[j]?=some z/\eqV z y=true)/\(∀(i:Nat) (z:V),i<j->xs[i]?=some z->eqV z y=false)/\Q (.int (j:Nat)) H
theorem Zlc {K:Frag} (hK:X.K=K):MtM X "list.index" (Zku K):=by
 subst hK
 intro pins s σ H x vs v us Q I rx rv h
 obtain⟨l,xs,y,j,rfl,rfl,hH,hz,hf,hy,⟨z,hz1,hz2⟩,hb,q⟩:=h
 cases rx
 obtain⟨u,rfl,ru⟩:=rv.one
 obtain⟨its,r,pl,_⟩:=I.list hH
 have hlen:=r.length
 obtain⟨⟨cls,dd,data,sl⟩,ho,hc,n,hd⟩:=pl.isList
 simp only at hc hd
 subst hc hd
 have hj:j<xs.length:=(Yn.mp hz1).1
 have at_:∀(i:Nat) (hi:i<its.length) (w:V),xs[i]?=some w->eqU y its[i]=eqV w y:=λi hi w hw=>by
  obtain⟨u',hu',r'⟩:=r.get hw
  have e:its[i]=u':=by
   rw[Yb hi]at hu';exact Yx hu'
  rw[e]
  exact Zju r' (List.all_eq_true.mp hf w (List.mem_of_getElem? hw))
 refine call_meets F.slot_list_index ⟨_,ho,rfl⟩ F.entry_list_index (F.args_list_index_2 _ _)
  (SeqAt.list_indexAt l its.toArray n dd sl u (eqU y) j (by rw[Ym];omega) (by omega) ?_ ?_) ⟨ho,λw hw=>ZcK ru hy r hf w (by simpa using hw),⟨.int _,H,I.tok _,⟨_,rfl⟩,q⟩⟩
 ·show eqU y its[j]=true
  rw[at_ j (by omega) z hz1];exact hz2
 ·intro i his hlt
  show eqU y its[i]=false
  have hi:i<its.length:=by simpa using his
  rw[at_ i hi xs[i] (Yb (by omega))]
  exact hb i _ hlt (Yb (by omega))
end
noncomputable def Zbz (f g:Nat->Int) (n:Nat):Prop:=∀a c,a+c<n->ZC f a c=ZC g a c
theorem Zbz.over {f g:Nat->Int}{n o p:Nat} (h:Zbz f g n) (ho:o<n) (hp:p<n) (k:Over f o p):Over g o p:=by
 rcases k with⟨z,k⟩|⟨z,k⟩
 ·have i1:ZbG f o (o+(p-o)) o:=⟨Ya _,by omega,λq q1 q2=>by omega,λq q1 q2=>k q q1 (by omega)⟩
  have e:=h o (p-o) (by omega)
  rw[(ZaJ f o (p-o)).unique i1]at e
  have i2:=ZaJ g o (p-o)
  rw[<-e]at i2
  exact .inl ⟨z,λr r1 r2=>i2.2.2.2 r r1 (by omega)⟩
 ·have i1:ZbG f p (p+(o-p)) o:=⟨by omega,by omega,λq q1 q2=>k q q1 q2,λq q1 q2=>by omega⟩
  have e:=h p (o-p) (by omega)
  rw[(ZaJ f p (o-p)).unique i1]at e
  have i2:=ZaJ g p (o-p)
  rw[<-e]at i2
  exact .inr ⟨z,λr r1 r2=>i2.2.2.1 r r1 (by omega)⟩
theorem Zbz.tree {ns ms T:List Int} (hT:ZR ns T) (hl:ms.length=ns.length) (h:Zbz (nth ns) (nth ms) ns.length):ZR ms T:=by
 refine⟨by rw[hl];exact hT.1,λp hp=>?_⟩
 rw[hl]at hp⊢
 refine ZiI hT (λq p hq hp hO=>?_) p hp
 rcases h.over hq hp hO with⟨z,k⟩|⟨z,k⟩
 ·exact⟨λ_=>k p z (Ya _),λy=>by omega⟩
 ·exact⟨λy=>by omega,λ_=>k p (Ya _) z⟩
theorem Zgp {ns ms T:List Int} (h1:ZR ns T) (h2:ZR ms T) {o p:Nat} (ho:o<ns.length) (hp:p<ns.length) (k:Over (nth ns) o p):Over (nth ms) o p:=by
 have hl:ms.length=ns.length:=h2.1.symm.trans h1.1
 exact((Zgo h2 (by omega)).mp ((Zgo h1 hp).mpr ⟨ho,k⟩)).2
theorem ZjB {ns ms T:List Int} (h1:ZR ns T) (h2:ZR ms T):Zbz (nth ns) (nth ms) ns.length:=by
 intro a c hac
 have hl:=ZaJ (nth ns) a c
 have hlt:=Zeg (nth ns) a c
 refine ZbG.unique (f:=nth ms) (a:=a) (b:=a+c) ⟨hl.1,hl.2.1,λq q1 q2=>?_,λq q1 q2=>?_⟩ (ZaJ (nth ms) a c)
 ·have:=Zgp h1 h2 (by omega) (by omega) (hl.over (p:=q) (by omega) (by omega) (by omega))
  rcases this with⟨z,k⟩|⟨z,k⟩
  ·omega
  ·exact k q (Ya _) q2
 ·have:=Zgp h1 h2 (by omega) (by omega) (hl.over (p:=q) (by omega) (by omega) (by omega))
  rcases this with⟨z,k⟩|⟨z,k⟩
  ·exact k q q1 (Ya _)
  ·omega
theorem ZnX {ns ms S T:List Int} (h1:ZR ns S) (h2:ZR ms T):(ns.length=ms.length/\Zbz (nth ns) (nth ms) ns.length)↔(ns.length=ms.length/\S=T):=by
 refine⟨λh=>⟨h.1,?_⟩,λh=>⟨h.1,?_⟩⟩
 ·exact(Zbz.tree h1 h.1.symm h.2).unique h2
 ·rw[h.2]at h1;exact ZjB h1 h2
noncomputable def Zcb (ns:List Int) (a c:Nat):List Int:=(ns.drop a).take c
theorem Zgq {ns:List Int}{a c:Nat} (h:a+c<=ns.length):(Zcb ns a c).length=c:=by
 unfold Zcb;rw[YW,YX];omega
theorem ZdD {ns:List Int}{a c i:Nat} (h:i<c):nth (Zcb ns a c) i=nth ns (a+i):=by
 simp[nth,Zcb,Yj,List.getElem?_take,List.getElem?_drop,h]
theorem Zmo {ns:List Int}{a c:Nat} (hac:a+c<=ns.length) {i m:Nat} (h:i+m<c):a+ZC (nth (Zcb ns a c)) i m=ZC (nth ns) (a+i) m:=by
 have hl:=ZaJ (nth (Zcb ns a c)) i m
 have hlt:=Zeg (nth (Zcb ns a c)) i m
 refine ZbG.unique (f:=nth ns) (a:=a+i) (b:=a+i+m) ⟨by omega,by omega,λq q1 q2=>?_,λq q1 q2=>?_⟩ (ZaJ (nth ns) (a+i) m)
 ·have:=hl.2.2.1 (q-a) (by omega) (by omega)
  rw[ZdD (by omega),ZdD (by omega),show a+(q-a)=q by omega]at this
  exact this
 ·have:=hl.2.2.2 (q-a) (by omega) (by omega)
  rw[ZdD (by omega),ZdD (by omega),show a+(q-a)=q by omega]at this
  exact this
noncomputable def Z2 (f:Nat->Int) (n s:Nat):List Int:=(List.range (n-s)).map λa=>(ZC f a s:Int)-(a:Int)
noncomputable def ZaK (f:Nat->Int) (n:Nat):List (List Int):=(List.range n).map (Z2 f n)
noncomputable def ZbA (f:Nat->Int) (n s:Nat):List Int:=(List.range (n-s)).map λa=>(ZC f a s:Int)
theorem ZiL (f:Nat->Int) (n:Nat):ZbA f n 0=(List.range n).map λ(a:Nat)=>(a:Int):=by simp[ZbA,ZC]
theorem ZhZ (f:Nat->Int) (n i:Nat):(List.range (i+1)).map (Z2 f n)=(List.range i).map (Z2 f n)++[Z2 f n i]:=by rw[YU,YG];rfl
noncomputable def Zmp (f g:Nat->Int) (x y size a m:Nat):Prop:=a+m<size/\(ZC f (x+a) m:Int)-(x+a:Nat)≠(ZC g (y+a) m:Int)-(y+a:Nat)/\(∀m',m'<m->∀a',a'+m'<size->(ZC f (x+a') m':Int)-(x+a':Nat)=(ZC g (y+a') m':Int)-(y+a':Nat)) /\
 ∀a',a'<a->(ZC f (x+a') m:Int)-(x+a':Nat)=(ZC g (y+a') m:Int)-(y+a':Nat)
noncomputable def Zbm (f g:Nat->Int) (x y size:Nat):Prop:=∀m a,a+m<size->(ZC f (x+a) m:Int)-(x+a:Nat)=(ZC g (y+a) m:Int)-(y+a:Nat)
theorem ZiM {f g:Nat->Int}{n:Nat}:Zbm f g 0 0 n↔Zbz f g n:=by
 refine⟨λh a c k=>?_,λh m a k=>?_⟩
 ·have:=h c a k
  rw[Nat.zero_add]at this
  omega
 ·rw[Nat.zero_add,h a m k]
theorem ZjC {f:Nat->Int}{n s a:Nat} (h:a<n-s):nth (ZbA f n s) a=ZC f a s:=by simp[nth,ZbA,Yj,h]
theorem ZbT (f:Nat->Int) (n s:Nat):(ZbA f n s).length=n-s:=by simp[ZbA]
theorem ZjD (f:Nat->Int) (a i:Nat):(if f (a+i)<f (ZC f a (i-1))then a+i else ZC f a (i-1))=ZC f a i:=by
 cases i with
 |zero=>simp[ZC]
 |succ k=>simp[ZC,Nat.add_assoc]
theorem Zhv {P:Nat->Prop}:∀n,¬ (∀j,j<n->P j)->∃j,j<n/\¬ P j/\∀i,i<j->P i
 |0,h=>absurd (λj hj=>by omega) h
 |n+1,h=>by
  by_cases z:∀j,j<n->P j
  ·exact⟨n,by omega,λy=>h λj hj=>by
    by_cases e:j=n
    ·rw[e];exact y
    ·exact z j (by omega),z⟩
  ·obtain⟨j,h1,h2,h3⟩:=Zhv n z
   exact⟨j,by omega,h2,h3⟩
theorem Zc0 {f:Nat->Int}{n i:Nat}{K:Frag}{H:Hp}{l:Addr} (R:Rows H l (ZaK f n)) (h:i<n):∃xs a,SqL K H l xs/\atI xs (i:Int)=some (.ref a)/\H a=some (.lst ((Z2 f n i).map V.int)):=by
 have h':i<(ZaK f n).length:=by simpa[ZaK]using h
 obtain⟨xs,a,h1,h2,h3⟩:=R.at (K:=K) h'
 exact⟨xs,a,h1,h2,by rw[h3];simp[ZaK]⟩
theorem ifR {c:TT}{t u:TS}{D:Ends}{σ:St}{H:Hp} (T U:Hp->Prop) (ht:∀H1,T H1->t D σ H1) (hu:∀H1,U H1->u D σ H1) (hc:∀B:Bool->Hp->Prop,(∀H1,T H1->B true H1)->(∀H1,U H1->B false H1)->c σ H B):tIfS c t u D σ H :=
 hc _ (λH1 h=>by rw[Yd rfl];exact ht H1 h) (λH1 h=>by rw[Ye (by simp)];exact hu H1 h)
section
variable {X:Cx}
noncomputable def Zkv (K:Frag):List V->Hp->VK->Prop:=λxs H Q=>∃(p:Addr) (ns:List Int),xs=[.ref p]/\SqL K H p (ns.map V.int)/\ns.length<64/\∀(ns':List Int) (l:Addr),ns'.Perm ns->ns'.Pairwise (·<=·)->H l=none->Q (.ref l) (upd H l (.lst (ns'.map V.int)))
theorem ZiN {K:Frag} (hK:X.K=K):ZaI X (.builtin "sorted") (Zkv K):=by
 subst hK
 intro pins s σ H xs us Q I r h
 obtain⟨p,ns,rfl,hp,hn,q⟩:=h
 obtain⟨u,rfl,ru⟩:=r.one
 cases(show u=Value.ref p from ru)
 obtain⟨its,rv,pl,hz⟩:=I.list hp
 have hi:IntsAre its ns:=intsAre_of rv
 have hl:its.length=ns.length:=by have:=rv.length;rw[Yc]at this;exact this.symm
 refine sorted_ints pl.isList hi (by omega) λout ns' ho hperm hpw=>?_
 have hlen:ns'.length=ns.length:=hperm.length_eq
 refine⟨.ref (s.heap.objs.size+1),_,I.laid (t':=s.toks) (a:=s.heap.objs.size+1) (o:=.lst (ns'.map V.int)) (λb o e=>?_) (YT _) ?_,rfl,q ns' _ hperm hpw (I.hok.fresh (YT _))⟩
 ·exact sortedAll_old e
 ·obtain⟨n,e⟩:=sortedAll_at s.heap its out
  have hv:Vals (ns'.map V.int) out.toList:=Zfq ho
  exact⟨by rw[Yc];exact Yh (show ns'.length<=1000 by omega) (by decide),out.toList,n,hv,by rw[e]⟩
theorem Zhw:bootBuiltins "sorted"=some (.builtin "sorted"):=by decide +kernel
end
open Classical in
noncomputable def Zld (f:Nat->Int) (p:Nat):Int:=if h:∃q,Zac f p q then (Classical.choose h:Nat)else -1
theorem Zhx {f:Nat->Int}{p q:Nat} (h:Zac f p q):Zld f p=q:=by
 have hx:∃q,Zac f p q:=⟨q,h⟩
 unfold Zld
 rw[dif_pos hx,(Classical.choose_spec hx).unique h]
theorem Zkw {f:Nat->Int}{p:Nat} (h:Zcy f p):Zld f p=-1:=by
 unfold Zld
 rw[dif_neg λ⟨q,hq⟩=>hq.no h]
noncomputable def Zaq (f:Nat->Int) (p:Nat):Int:=if 0<=Zld f p then (p:Int)-Zld f p else 0
theorem Zgr {f:Nat->Int} (v:Int):∀S:List Nat,S.Pairwise (λa b=>f a<=f b)->∃A B,S=A++B/\(∀q∈A,f q<=v)/\∀q∈B,v<f q
 |[],_=>⟨[],[],rfl,λ_ h=>(nomatch h),λ_ h=>(nomatch h)⟩
 |q::r,h=>by
  have hr:=Y0.mp h
  by_cases z:f q<=v
  ·obtain⟨A,B,e,h1,h2⟩:=Zgr v r hr.2
   refine⟨q::A,B,by rw[e];rfl,λx hx=>?_,h2⟩
   rcases Yk.mp hx with y|y
   ·rw[y];exact z
   ·exact h1 x y
  ·refine⟨[],q::r,rfl,λ_ h=>(nomatch h),λx hx=>?_⟩
   rcases Yk.mp hx with y|y
   ·rw[y];omega
   ·have:=hr.1 x y;omega
theorem Zeo.mono {f:Nat->Int}{i:Nat}{S:List Nat} (h:Zeo f i S):S.Pairwise (λa b=>f a<=f b):=by
 refine List.Pairwise.imp_of_mem ?_ h.1
 intro a b ha hb hab
 exact((h.2 a).mp ha).2 b hab ((h.2 b).mp hb).1
theorem ZjE {f:Nat->Int}{i:Nat}{A B:List Nat} (hs:Zeo f i (A++B)) (hA:∀q∈A,f q<=f i) (hB:∀q∈B,f i<f q):(A=[]/\Zcy f i)\/∃A' q,A=A'++[q]/\Zac f i q:=by
 have op:∀q,Zac f i q->q∈A:=λq h=>by
  have hm:q∈A++B:=(hs.2 q).mpr ⟨h.1,λr r1 r2=>by have:=h.2.2 r r1 r2;have:=h.2.1;omega⟩
  rcases Yl.mp hm with z|z
  ·exact z
  ·have:=hB q z;have:=h.2.1;omega
 rcases Zga f i with h|⟨q,h⟩
 ·left
  refine⟨?_,h⟩
  cases A with
  |nil=>rfl
  |cons a r =>
   have h1:=hA a (by simp)
   have h2:=h a ((hs.2 a).mp (by simp)).1
   omega
 ·right
  have hq:=op q h
  have hne:A≠[]:=λz=>by rw[z]at hq;cases hq
  refine⟨A.dropLast,A.getLast hne,(List.dropLast_concat_getLast hne).symm,?_⟩
  have hl:A.getLast hne∈A:=List.getLast_mem hne
  have hli:=((hs.2 _).mp (YF _ hl)).1
  have:A.getLast hne=q:=by
   rcases Nat.lt_trichotomy (A.getLast hne) q with z|z|z
   ·-- q stands behind the last one
    have hpw:=(List.pairwise_append.mp hs.1).1
    rw[<-List.dropLast_concat_getLast hne]at hq hpw
    rcases Yl.mp hq with y|y
    ·have:=(List.pairwise_append.mp hpw).2.2 q y _ (YK.mpr rfl)
     omega
    ·have:q=A.getLast hne:=by simpa using y
     omega
   ·exact z
   ·have:=h.2.2 _ z hli;have:=hA _ hl;omega
  rw[this];exact h
theorem Zhy {f:Nat->Int}{i:Nat}{A B:List Nat} (hs:Zeo f i (A++B)) (hA:∀q∈A,f q<=f i) (hB:∀q∈B,f i<f q):(A=[]/\Zaq f i=0)\/∃A' q,A=A'++[q]/\q<i/\Zaq f i=(i:Int)-q:=by
 rcases ZjE hs hA hB with⟨h1,h2⟩|⟨A',q,h1,h2⟩
 ·left;refine⟨h1,?_⟩
  unfold Zaq;rw[Zkw h2,Ye (by omega)]
 ·right;refine⟨A',q,h1,h2.1,?_⟩
  unfold Zaq;rw[Zhx h2,Yd (by omega)]
theorem Zmq {J:It}{n:Nat}{g:TG}{tb:TS}{D:Ends}{σ:St}{H:Hp} (Pv:Nat->St->Hp->Prop) (h0:Pv 0 σ H) (hgo:∀i σ H,i<n->Pv i σ H->J.go i H) (hstop:∀σ H,Pv n σ H->J.stop n H)
  (hs:∀i x σ H H',i<n->Pv i σ H->J.yld i H x H'->g x σ H' fun σ2 H2=>tb {D with nx:=Pv (i+1),ct:=Pv (i+1),bk:=D.nx} σ2 H2) (hd:∀σ H,Pv n σ H->D.nx σ H):LoopR J g tb D σ H:=by
 refine⟨λi m σ H=>m=n-i/\i<=n/\Pv i σ H,⟨n,by simp,Yr _,h0⟩,?_⟩
 rintro i m σ H ⟨rfl,hi,p⟩
 by_cases hlt:i<n
 ·exact .inr ⟨hgo i σ H hlt p,Pv (i+1),fun σ' H' p'=>⟨n-(i+1),by omega,rfl,hlt,p'⟩,λx H' y=>hs i x σ H H' hlt p y⟩
 ·have:i=n:=by omega
  subst this
  exact .inl ⟨hstop σ H p,hd σ H p⟩
theorem Zmr (L:List Int):L=(List.range L.length).map λi=>L.getD i 0:=by
 refine List.ext_getElem (by simp) λj h1 h2=>?_
 simp[Yj,h1]
theorem Zfx {K:Frag}{a:Addr}{L:List Int}{H1:Hp}{Q:VK}{tt:TT}{σr:St} (P:Int->Bool) (ha:H1 a=some (.lst (L.map V.int))) (hn:L.length<=1000)
  (ht:∀(x:Int) (H:Hp) (R:Bool->Hp->Prop),R (P x) H->tt (some (V.int x)::σr) H R)
  (hk:∀l H',Zf H1 H'->H' l=none->Q (.ref l) (upd H' l (.lst ((L.filter P).map V.int)))) :
  ZdB (Itl K a) (Zgd 0) tt (tVar 0) (none::σr) Q H1:=by
 refine ZcQ (n:=L.length) (λi=>P (L.getD i 0)) (λi=>V.int (L.getD i 0)) (Yp hn (by decide)) (λi Hx s hi=>⟨_,_,SqL.of (s _ _ ha),Yb (by simpa using hi)⟩) (λHx s=>⟨_,SqL.of (s _ _ ha),by simp⟩) ?_ ?_
 ·rintro i x Hx Hy hi s ⟨rfl,hx⟩
  have ex:=hx _ (SqL.of (s _ _ ha))
  rw[Yt,Yb hi]at ex
  cases ex
  have eg:L.getD i 0=L[i]:=by simp[Yj,hi]
  refine ht _ _ _ ?_
  cases hP:P L[i]with
  |true =>
   rw[Yd rfl]
   exact⟨_,rfl,CF.take hi (by rw[eg];exact hP) (by rw[eg]) s⟩
  |false =>
   rw[Ye (by simp)]
   exact CF.skip hi (by rw[eg];exact hP) s
 ·intro l H' s hl
  have:=hk l H' s hl
  have e:((List.range L.length).filter λi=>P (L.getD i 0)).map (λi=>V.int (L.getD i 0))=(L.filter P).map V.int:=by
   conv=>rhs;rw[Zmr L,List.filter_map,YZ]
   rfl
  rw[e];exact this
end L2
namespace PySem
open Sem (wp)
end PySem
namespace L2
open PySem PySem.Spec PyProof.Rows PySem.W
theorem Zms {a n:Nat} (h:a<n):seqIndex? (a:Int) n=some a:=by
 unfold seqIndex?
 simp
 omega
theorem Zam {F:Nat->Int}{n k:Nat} (h:k<n):nth ((List.range n).map F) k=F k:=by simp[nth,Yj,h]
noncomputable def ZbB (T:List Int):Nat->Int->Prop
 |0,a=>a=-1
 |k+1,a=>a=-1\/(0<=a/\a<T.length/\ZbB T k (nth T a.toNat))
theorem ZjF (T:List Int) (k:Nat):ZbB T k (-1):=by cases k<;>simp[ZbB]
theorem ZfF (T:List Int):∀k a,ZbB T k a->ZbB T (k+1) a
 |0,a,h=>.inl h
 |k+1,a,h=>by
  rcases h with h|⟨h1,h2,h3⟩
  ·exact .inl h
  ·exact .inr ⟨h1,h2,ZfF T k _ h3⟩
theorem Zle (T:List Int) {k m:Nat} (h:k<=m) {a:Int} (e:ZbB T k a):ZbB T m a:=by
 induction h with
 |refl=>exact e
 |step _ ih=>exact ZfF T _ _ ih
theorem ZfG {ns T:List Int} (hT:ZR ns T):∀d p,p<ns.length->dep (nth ns) ns.length p<=d->ZbB T (d+1) (p:Int)
 |d,p,hp,hd=>by
  have e:=hT.1
  refine .inr ⟨by omega,by omega,?_⟩
  have ep:((p:Int)).toNat=p:=by omega
  rw[ep]
  rcases ZdC hT hp with z|⟨q,z,hq,_,hz⟩
  ·rw[z];exact ZjF T d
  ·rw[z]
   cases d with
   |zero=>omega
   |succ d=>exact ZfG hT d q hq (by omega)
theorem ZjG {ns T:List Int} (hT:ZR ns T) {p:Nat} (hp:p<T.length):ZbB T T.length (nth T p):=by
 have e:=hT.1
 have h:=ZfG hT (dep (nth ns) ns.length p) p (by omega) (Ya _)
 rcases h with h|⟨_,_,h⟩
 ·omega
 ·have ep:((p:Int)).toNat=p:=by omega
  rw[ep]at h
  have:=Zjy (f:=nth ns) (n:=ns.length) (p:=p) (by omega)
  exact Zle T (by omega) h
theorem pmz3:(0:Int)<10 ^ Int.toNat 64*10 ^ Int.toNat 64*10 ^ Int.toNat 64:=by decide +kernel
theorem Zkx {K:Frag}{Hx:Hp}{l q:Addr}{L:List Nat} (h1:Hx l=some (.lst (ZaF L))) (h2:Hx q=some (.lst [])):EqD K Hx 3 (V.ref l) (V.ref q) (decide (L=[])):=by
 have hh:=Zcg (n:=2) (K:=K) (H:=Hx) Zcf (V.ref l) (V.ref q) (L.map λ(q:Nat)=>(q:Int)) [] (Z8 (SqL.of (by rw[h1];simp[ZaF,Function.comp_def]))) (Z8 (ns:=[]) (SqL.of h2))
 have e:decide (L.map (λ(q:Nat)=>(q:Int))=[])=decide (L=[]):=by cases L<;>simp
 rw[e]at hh;exact hh
noncomputable def CDivL (i j:Int):Prop:=0<j/\j<18446744073709551616
theorem ZiO {X:Cx}:OpR X (binaryOp .FloorDiv) (rI CDivL λi j=>.int (i / j)):=opI λi j _ _ _ _ _ hc q=>by
 have h1:(0:Int)<j:=hc.1
 have h2:j<18446744073709551616:=hc.2
 refine floordiv_int (by omega) (by rw[Int.fdiv_eq_ediv_of_nonneg i (by omega)];exact q) (.inl (PyProof.noPylong_of_log2 ?_))
 have h3:j.natAbs<2 ^ 64:=by omega
 have:j.natAbs.log2<64:=(Nat.log2_lt (by omega)).mpr h3
 omega
end L2
namespace L2
theorem snoc_cases {α:Type} (xs:List α):xs=[]\/∃ys y,xs=ys++[y]:=by
 rcases List.eq_nil_or_concat xs with h|⟨ys,y,h⟩
 ·exact .inl h
 ·exact .inr ⟨ys,y,by rw[h,List.concat_eq_append]⟩
end L2
namespace L2
open PySem PySem.Spec PyProof.Rows PySem.W
theorem Zmt (xs:List V) {a c:Nat} (h1:a<=c) (h2:c<=xs.length):ZbH xs (some (a:Int)) (some (c:Int))=(xs.drop a).take (c-a):=by
 unfold ZbH
 rw[HT.Zkg,HT.Zkg,Nat.min_eq_left h2,Nat.min_eq_left (Yh h1 h2)]
theorem Zgs (ns:List Int) {a c:Nat} (h1:a<=c) (h2:c<=ns.length):ZbH (ns.map V.int) (some (a:Int)) (some (c:Int))=(Zcb ns a (c-a)).map V.int:=by
 rw[Zmt _ h1 (by simpa using h2)]
 unfold Zcb
 rw[List.map_take,List.map_drop]
noncomputable def sw (d:Int) (k:Nat):Int:=if d<=k then d else 0
theorem Zci (f:Nat->Int) (p:Nat):(Zcy f p/\Zaq f p=0)\/∃q,Zac f p q/\Zaq f p=(p:Int)-q:=by
 rcases Zga f p with h|⟨q,h⟩
 ·exact .inl ⟨h,by unfold Zaq;rw[Zkw h,Ye (by omega)]⟩
 ·exact .inr ⟨q,h,by unfold Zaq;rw[Zhx h,Yd (by omega)]⟩
theorem Ze5 (f:Nat->Int) (p:Nat):0<=Zaq f p/\Zaq f p<=p:=by
 rcases Zci f p with⟨_,e⟩|⟨q,h,e⟩
 ·omega
 ·have:=h.1;omega
noncomputable def ZeB (f g:Nat->Int) (m:Nat):Prop:=∀i,i<m->Zaq f i=Zaq g i
noncomputable def Mt (f g:Nat->Int) (m p:Nat):Prop:=∀i,i<m->Zaq f i=sw (Zaq g (p-m+i)) i
theorem Ze6 {f:Nat->Int}{v:Int}{A B:List Nat} (hA:∀q∈A,f q<=v) (hB:∀q∈B,v<f q):((A++B).map f).filter (λx=>decide (x<=v))=A.map f:=by
 rw[YG,List.filter_append]
 have e1:(A.map f).filter (λx=>decide (x<=v))=A.map f:=List.filter_eq_self.mpr λx hx=>by
  obtain⟨q,hq,rfl⟩:=YB.mp hx
  exact Yo (hA q hq)
 have e2:(B.map f).filter (λx=>decide (x<=v))=[]:=List.filter_eq_nil_iff.mpr λx hx=>by
  obtain⟨q,hq,rfl⟩:=YB.mp hx
  have:=hB q hq
  simp;omega
 rw[e1,e2,List.append_nil]
noncomputable def Alike (f g:Nat->Int) (i:Nat) (S:List Nat):Prop:=Zeo f i S/\Zeo g i S/\ZeB f g i
theorem ZjH (f g:Nat->Int):Alike f g 0 []:=⟨⟨List.Pairwise.nil,λq=>by simp⟩,⟨List.Pairwise.nil,λq=>by simp⟩,λi hi=>absurd hi (by omega)⟩
theorem ZjI {f g:Nat->Int}{i:Nat}{S:List Nat} (h:Alike f g i S):∃A A':List Nat,(S.map f).filter (λx=>decide (x<=f i))=A.map f/\(S.map g).filter (λx=>decide (x<=g i))=A'.map g/\(A.length=A'.length->A=A'/\Alike f g (i+1) (A++[i]))/\(A.length≠A'.length->Zaq f i≠Zaq g i):=by
 obtain⟨hf,hg,hd⟩:=h
 obtain⟨A,B,e1,a1,a2⟩:=Zgr (f:=f) (f i) S hf.mono
 obtain⟨A',B',e2,b1,b2⟩:=Zgr (f:=g) (g i) S hg.mono
 have hf':Zeo f i (A++B):=e1▸hf
 have hg':Zeo g i (A'++B'):=e2▸hg
 have kf:=Zhy hf' a1 a2
 have kg:=Zhy hg' b1 b2
 refine⟨A,A',by rw[e1];exact Ze6 a1 a2,by rw[e2];exact Ze6 b1 b2,λhl=>?_,λhl he=>hl ?_⟩
 ·have ee:A=A':=(List.append_inj (e1.symm.trans e2) hl).1
  subst ee
  refine⟨rfl,(Zgj hf' a1 a2).1,(Zgj hg' b1 b2).1,λj hj=>?_⟩
  by_cases z:j=i
  ·subst z
   rcases kf with⟨z1,z2⟩|⟨A1,q1,z1,_,z2⟩<;>rcases kg with⟨w1,w2⟩|⟨A2,q2,w1,_,w2⟩
   ·rw[z2,w2]
   ·rw[z1]at w1;simp at w1
   ·rw[w1]at z1;simp at z1
   ·rw[z1]at w1
    have:=(List.append_inj' w1 rfl).2
    simp at this
    rw[z2,w2,this]
  ·exact hd j (by omega)
 ·have so:S.Pairwise (· < ·):=hf.1
  rcases kf with⟨z1,z2⟩|⟨A1,q1,z1,z3,z2⟩<;>rcases kg with⟨w1,w2⟩|⟨A2,q2,w1,w3,w2⟩
  ·rw[z1,w1]
  ·omega
  ·omega
  ·have hq:q1=q2:=by omega
   subst hq
   -- both are beginnings of S that end with q1
   have i1:A.length<=A'.length\/A'.length<=A.length:=Nat.le_total _ _
   have e3:A++B=A'++B':=e1.symm.trans e2
   have nd:(A++B).Pairwise (· < ·):=e1▸so
   have g1:(A++B)[A.length-1]?=some q1:=by rw[z1];simp
   have g2:(A++B)[A'.length-1]?=some q1:=by rw[e3,w1];simp
   have l1:A.length-1<(A++B).length:=(Yn.mp g1).1
   have l2:A'.length-1<(A++B).length:=(Yn.mp g2).1
   have p1:0<A.length:=by rw[z1];simp
   have p2:0<A'.length:=by rw[w1];simp
   have v1:=(Yn.mp g1).2
   have v2:=(Yn.mp g2).2
   rcases Nat.lt_trichotomy (A.length-1) (A'.length-1)with z|z|z
   ·have:=List.pairwise_iff_getElem.mp nd _ _ l1 l2 z
    omega
   ·omega
   ·have:=List.pairwise_iff_getElem.mp nd _ _ l2 l1 z
    omega
end L2
namespace L2
open PySem PySem.Spec PyProof.Rows PySem.W
structure FunD (K:PySem.W.Frag) (x qual:Str) (st:Stmt) (f:Addr) (fd:FuncData) (dV:Value):Prop where
 ex:∃(oc:Value) (od:Option Addr) (kV doc pm:Value) (an:Option Addr) (cdv ct:Value) (osl:Array (Option Value)),
  fd=PySem.W.fnOf x qual (defArgs st) (defBody st) (defScope st) dV kV doc pm an cdv ct/\K.lookup f=some ⟨oc,od,.func fd,osl⟩/\PySem.W.codeIn K cdv qual=true
 kp:PySem.W.keepIn K (.ref f)=true
section
variable {P:Program}{w:World}{K:PySem.W.Frag}{mg:Str->Option Value}{base:Heap}
theorem FunD.okX {x qual:Str}{st:Stmt}{f:Addr}{fd:FuncData}{dV:Value}{N ps:List Str}{k:Nat}{sp:Sp} (F:FunD K x qual st f fd dV) (S:FnScope N ps (defScope st)) (len:∀vs H Q E,sp vs H Q E->vs.length=ps.length)
  (hbody:∀(cdv:Value) (A:Around) (outer:List Env) (s:Shared) (H:Hp) (vs:List V) (Q:VK) (E:XK),Room k (A.deeper (envOfC qual (defScope st) s.heap.objs.size f cdv))->sp vs H Q E ->
   ∃t,PSs (Zfp (CXE P w) P w K mg base N qual (defScope st) f cdv A outer s H E) (defBody st) t/\t {nx:=λ_ H'=>Q .non H',rt:=Q} (start N vs) H):FnOk P w K mg base (CXE P w) (k+1) f fd ps sp:=by
 obtain⟨oc,od,kV,doc,pm,an,cdv,ct,osl,rfl,lk,hcd⟩:=F.ex
 exact fn_of lk hcd S len λA outer s H vs Q E hr hsp=>hbody cdv A outer s H vs Q E hr hsp
theorem FunD.binds {x qual:Str}{st:Stmt}{f:Addr}{fd:FuncData}{D:Addr}{ps:List Str}{ds:List Value}{oc:Value}{od:Option Addr}{items:Array Value}{ep:Nat}{sl:Array (Option Value)} (F:FunD K x qual st f fd (.ref D))
  (lk:K.lookup D=some ⟨oc,od,.seq items ep,sl⟩)
  (h:∀(kV doc pm:Value) (an:Option Addr) (cdv ct:Value) (us:List Value),(us++ds).length=ps.length->∃k,bindArgs (PySem.W.fnOf x qual (defArgs st) (defBody st) (defScope st) (.ref D) kV doc pm an cdv ct) ⟨us,[]⟩=seqItems? (.ref D) >>= k/\k (some items)=pure (ps.zip (us++ds))):Binds K fd ps ds:=by
 obtain⟨oc,od,kV,doc,pm,an,cdv,ct,osl,rfl,lf,hcd⟩:=F.ex
 intro s us KX hl
 obtain⟨k,h1,h2⟩:=h kV doc pm an cdv ct us hl
 exact BindsTo.of_defaults rfl (KX _ _ lk) rfl h1 h2
theorem ZnY {x qual:Str}{st:Stmt}{f:Addr}{oc:Value}{od an:Option Addr}{osl:Array (Option Value)}{dV kV doc pm cdv ct:Value} (l:K.lookup f=some ⟨oc,od,.func (PySem.W.fnOf x qual (defArgs st) (defBody st) (defScope st) dV kV doc pm an cdv ct),osl⟩)
  (c:PySem.W.codeIn K cdv qual=true) (k:PySem.W.keepIn K (.ref f)=true):FunD K x qual st f (PySem.W.fnOf x qual (defArgs st) (defBody st) (defScope st) dV kV doc pm an cdv ct) dV:=⟨⟨oc,od,kV,doc,pm,an,cdv,ct,osl,rfl,l,c⟩,k⟩
end
noncomputable def Zh0 (P:Program) (w:World) (K:Frag) (mg:Str->Option Value) (base:Heap) (x:Str) (k:Nat) (ps:List Str) (dvs:List V) (sp:Sp):Prop :=
 ∃f fd ds,mg x=some (.ref f)/\keepIn K (.ref f)=true/\Binds K fd ps ds/\Vals dvs ds/\FnOk P w K mg base (CXE P w) k f fd ps sp
theorem Zlf {X:Cx}{x:Str}{k:Nat}{ps:List Str}{dvs:List V}{sp:Sp}{E:XK}{e:Expr}{es:List Expr}{t:TA}{p pos:Pos} (C:Zh0 X.prog X.w X.K X.mg X.base x k ps dvs sp) (hr:Room k X.A) (hg:Gl X x) (hx:Passes (CXE X.prog X.w) X E)
  (ha:PA X (e::es) t) (hdb:(x==("__debug__":Str))=false:=by decide) (he:starEach (e::es) X.env=(false,eval e X.env)::starEach es X.env:=by rfl) (hpl:(backTo pos (starEach es X.env)).any (·.1)=false:=by rfl) :
  PE X (.Call (.Name x p) (e::es) [] pos) (Zke sp dvs E t):=by
 obtain⟨f,fd,ds,hm,hk,hb,hv,F⟩:=C
 exact Zkf F hr hg hm hk hb hv hx ha hdb he hpl
theorem Ze7 (f:Nat->Int) (a c:Nat):ZC f a (c+1)=if sw (Zaq f (a+c+1)) (c+1)=0 then a+c+1 else ZC f a c:=by
 obtain⟨l1,l2,l3,l4⟩:=ZaJ f a c
 rw[ZC]
 generalize ZC f a c=m at *
 rcases Zci f (a+c+1)with⟨h,e⟩|⟨q,⟨q1,q2,q3⟩,e⟩
 ·rw[e,Yd (h m (by omega)),Yd]
  unfold sw;split<;>rfl
 ·rw[e]
  by_cases hq:a<=q
  ·have hm:f m<=f q:=by
    by_cases z:q<m
    ·have:=l3 q hq z;omega
    ·by_cases y:q=m
     ·rw[y];exact Int.le_refl _
     ·exact l4 q (by omega) (by omega)
   rw[Ye (by omega),Ye]
   unfold sw;rw[Yd (by omega)];omega
  ·rw[Yd (q3 m (by omega) (by omega)),Yd]
   unfold sw;rw[Ye (by omega)]
theorem ZeB.lows {f g:Nat->Int}{n:Nat} (h:ZeB f g n):Zbz f g n:=by
 intro a c
 induction c with
 |zero=>intro _;rfl
 |succ c ih=>intro k;rw[Ze7,Ze7,ih (by omega),h (a+c+1) (by omega)]
theorem Zbz.kinD {f g:Nat->Int}{n:Nat} (h:Zbz f g n):ZeB f g n:=by
 intro i hi
 have key:∀k,0<k->k<=i->(sw (Zaq f i) k=0↔sw (Zaq g i) k=0):=λk k0 k1=>by
  have e:=h (i-k) (k-1+1) (by omega)
  rw[Ze7,Ze7]at e
  rw[show i-k+(k-1)+1=i by omega,show k-1+1=k by omega]at e
  have b1:=(Zeg f (i-k) (k-1)).2
  have b2:=(Zeg g (i-k) (k-1)).2
  by_cases z:sw (Zaq f i) k=0
  ·rw[Yd z]at e
   by_cases y:sw (Zaq g i) k=0
   ·exact⟨λ_=>y,λ_=>z⟩
   ·rw[Ye y]at e;omega
  ·rw[Ye z]at e
   by_cases y:sw (Zaq g i) k=0
   ·rw[Yd y]at e;omega
   ·exact⟨λw=>absurd w z,λw=>absurd w y⟩
 have b1:=Ze5 f i
 have b2:=Ze5 g i
 generalize Zaq f i=d at *
 generalize Zaq g i=d' at *
 apply Classical.byContradiction
 intro ne
 have main:∀x y:Int,0<=x->x<=i->0<=y->y<=i->(∀k:Nat,0<k->k<=i->(sw x k=0↔sw y k=0))->¬ x<y:=λx y x0 x1 y0 y1 kk hlt=>by
  by_cases hx:x=0
  ·have:=(kk y.toNat (by omega) (by omega)).mp (by rw[hx];unfold sw;split<;>rfl)
   unfold sw at this
   rw[Yd (by omega)]at this;omega
  ·have:=(kk x.toNat (by omega) (by omega)).mpr (by unfold sw;rw[Ye (by omega)])
   unfold sw at this
   rw[Yd (by omega)]at this;omega
 by_cases hlt:d<d'
 ·exact main d d' b1.1 b1.2 b2.1 b2.2 key hlt
 ·exact main d' d b2.1 b2.2 b1.1 b1.2 (λk h1 h2=>(key k h1 h2).symm) (by omega)
theorem Zlg {f g:Nat->Int}{s n:Nat} (h:∀k,k<n->g k=f (s+k)) (a:Nat):∀c,a+c<n->ZC f (s+a) c=s+ZC g a c:=by
 intro c
 induction c with
 |zero=>intro _;rfl
 |succ c ih =>
  intro k
  have b:=(Zeg g a c).2
  rw[ZC,ZC,ih (by omega),<-h (ZC g a c) (by omega),show s+a+c+1=s+(a+c+1) by omega,<-h (a+c+1) (by omega)]
  split<;>rfl
theorem Zgt {ns ms:List Int}{s:Nat} (hs:s+ns.length<=ms.length):Zbm (nth ns) (nth ms) 0 s ns.length↔ZeB (nth ns) (nth (Zcb ms s ns.length)) ns.length:=by
 have sh':∀a c,a+c<ns.length->((ZC (nth ms) (s+a) c:Nat):Int)-((s+a:Nat):Int)=((ZC (nth (Zcb ms s ns.length)) (0+a) c:Nat):Int)-((0+a:Nat):Int):=λa c h=>by rw[Zlg (g:=nth (Zcb ms s ns.length)) (λk hk=>ZdD hk) a c h,Nat.zero_add];omega
 have:Zbm (nth ns) (nth ms) 0 s ns.length↔Zbm (nth ns) (nth (Zcb ms s ns.length)) 0 0 ns.length:=⟨λh m a k=>by rw[<-sh' a m k];exact h m a k,λh m a k=>by rw[sh' a m k];exact h m a k⟩
 rw[this,ZiM]
 exact⟨Zbz.kinD,ZeB.lows⟩
noncomputable def Zav (H:Hp) (l:Addr) (rs:List (List Int)):Prop:=∃as:List Addr,H l=some (.lst (as.map V.ref))/\as.length=rs.length/\∀i (h1:i<as.length) (h2:i<rs.length),H as[i]=some (.tup (rs[i].map V.int))
theorem Zav.same {H H':Hp}{l:Addr}{rs:List (List Int)} (R:Zav H l rs) (s:Zf H H'):Zav H' l rs:=by
 obtain⟨as,h1,h2,h3⟩:=R
 exact⟨as,s _ _ h1,h2,λi i1 i2=>s _ _ (h3 i i1 i2)⟩
theorem Zav.isL {K:Frag}{H:Hp}{l:Addr}{rs:List (List Int)} (R:Zav H l rs):IsL K H (IsT K H IsI) (.ref l) rs:=by
 obtain⟨as,h1,h2,h3⟩:=R
 refine⟨l,_,rfl,SqL.of h1,by simp[h2],λj x y e1 e2=>?_⟩
 have j2:=(Yn.mp e2).1
 have j1:j<as.length:=by omega
 rw[Yt,Yb j1]at e1
 rw[Yb j2]at e2
 cases e1
 cases e2
 exact Zmg (SqT.of (h3 j j1 j2))
theorem Zgu {f:Nat->Int}{n s a:Nat} (h:a<n-s):atI ((Z2 f n s).map V.int) (a:Int)=some (V.int ((ZC f a s:Int)-(a:Int))):=by
 rw[Zby (by simpa[Z2]using h)]
 simp[nth,Z2,Yj,h]
theorem Zgv (k:Nat) (p:Int->Bool):((List.range k).filter λ(j:Nat)=>p (j:Int)).map (λ(j:Nat)=>V.int (j:Int))=(((List.range k).map λ(j:Nat)=>(j:Int)).filter p).map V.int:=by
 rw[List.filter_map,YZ];rfl
noncomputable def Once (k:Nat) (ss ls:List Int):Prop:=ss=((List.range k).map λ(j:Nat)=>(j:Int)).filter (λj=>decide (j∉ls))/\ls=((List.range k).map λ(j:Nat)=>(j:Int)).filter (λj=>decide (j∈ls))
noncomputable instance (k:Nat) (ss ls:List Int):Decidable (Once k ss ls):=inferInstanceAs (Decidable (_/\_))
theorem Zav.walk {K:Frag}{H1:Hp}{d:Addr}{rs:List (List Int)} (R:Zav H1 d rs):(∀i H,Zf H1 H->i<rs.length->(Itl K d).go i H)/\(∀H,Zf H1 H->(Itl K d).stop rs.length H) /\
  ∀i x H H' (h:i<rs.length),Zf H1 H->(Itl K d).yld i H x H'->H'=H/\∃a,x=.ref a/\H a=some (.tup (rs[i].map V.int)):=by
 obtain⟨as,e,hl,hh⟩:=R
 refine⟨λi H s hi=>⟨_,V.ref (as[i]'(by omega)),SqL.of (s _ _ e),by simp[show i<as.length by omega]⟩,λH s=>⟨_,SqL.of (s _ _ e),by simp[hl]⟩,λi x H H' hi s y=>?_⟩
 obtain⟨e1,y⟩:=y
 have h1:=y _ (SqL.of (s _ _ e))
 rw[Yt,Yb (show i<as.length by omega)]at h1
 cases h1
 exact⟨e1,_,rfl,s _ _ (hh i (by omega) hi)⟩
theorem Zav.sq {K:Frag}{H:Hp}{l:Addr}{rs:List (List Int)} (R:Zav H l rs):∃xs,SqL K H l xs:=by
 obtain⟨as,e,_⟩:=R
 exact⟨_,SqL.of e⟩
theorem Zlh {K:Frag}{H:Hp}{n:Nat}{a c:Addr}{xs:List V} (h1:H a=some (.lst xs)) (h2:H c=some (.lst [])):EqD K H (n+1) (.ref a) (.ref c) (decide (xs=[])):=by
 cases xs with
 |nil =>
  have:=EqD.lst (K:=K) (H:=H) (n:=n) (λ_=>true) (SqL.of h1) (SqL.of h2) rfl λj x y e1 e2=>by simp at e1
  simpa using this
 |cons x xs =>
  have:=EqD.len (K:=K) (H:=H) (n:=n) (SqL.of h1) (SqL.of h2) (by simp)
  simpa using this
theorem ZeB.order {f g:Nat->Int}{n:Nat} (h:∀j i,j<i->i<n->(f j<=f i↔g j<=g i)):ZeB f g n:=by
 intro i hi
 rcases Zci f i with⟨h1,e1⟩|⟨q,h1,e1⟩<;>rcases Zci g i with⟨h2,e2⟩|⟨r,h2,e2⟩
 ·rw[e1,e2]
 ·have a:=h1 r h2.1
  have b:=(h r i h2.1 hi).mpr h2.2.1
  omega
 ·have a:=h2 q h1.1
  have b:=(h q i h1.1 hi).mp h1.2.1
  omega
 ·have:q=r:=by
   rcases Nat.lt_trichotomy q r with z|z|z
   ·have a:=h1.2.2 r z h2.1
    have b:=(h r i h2.1 hi).mpr h2.2.1
    omega
   ·exact z
   ·have a:=h2.2.2 q z h1.1
    have b:=(h q i h1.1 hi).mp h1.2.1
    omega
  rw[e1,e2,this]
theorem ZjJ {a b c:Int} (h:0<c):a<=b↔a*c<=b*c:=⟨λz=>Int.mul_le_mul_of_nonneg_right z (by omega),λz=>Int.le_of_mul_le_mul_right z h⟩
theorem ZeB.trans {f g h:Nat->Int}{n:Nat} (a:ZeB f g n) (b:ZeB g h n):ZeB f h n:=λi hi=>(a i hi).trans (b i hi)
theorem Zgw {ns ms T:List Int} (h1:ZR ns T) (h2:ZR ms T):ZeB (nth ns) (nth ms) ns.length:=by
 have e:ns.length=ms.length:=h1.1.symm.trans h2.1
 exact((ZnX h1 h2).mpr ⟨e,rfl⟩).2.kinD
section
variable {N:Nat}{k:Nat->Int}{cmp:Nat->Nat->(Bool->Shared->Prop)->Shared->Prop}{s:Shared}{p:Array Nat}
noncomputable def kk (k:Nat->Int) (p:Array Nat) (i:Nat):Int:=k (p.getD i 0)
noncomputable def SoT (k:Nat->Int) (p:Array Nat) (m:Nat):Prop:=∀i j,i<=j->j<m->kk k p i<=kk k p j
noncomputable def DeT (k:Nat->Int) (p:Array Nat) (m:Nat):Prop:=∀i j,i<=j->j<m->kk k p j<=kk k p i
noncomputable def Bd (N:Nat) (p:Array Nat):Prop:=p.Perm (List.range N).toArray
theorem ZdE {p q:Array Nat}{i j:Nat} (h:p[i]?=q[j]?):kk k p i=kk k q j:=by
 unfold kk;rw[Array.getD_eq_getD_getElem?,Array.getD_eq_getD_getElem?,h]
theorem Bd.size (h:Bd N p):p.size=N:=by
 have:=(Array.perm_iff_toList_perm.mp h).length_eq
 simpa using this
theorem Bd.lt (h:Bd N p) (hN:0<N) (i:Nat):p.getD i 0<N:=by
 rw[Array.getD_eq_getD_getElem?]
 by_cases hi:i<p.size
 ·rw[getElem?_pos p i hi]
  have:=(Array.Perm.mem_iff h (a:=p[i])).mp (Array.getElem_mem hi)
  simpa using this
 ·rw[getElem?_neg p i hi];exact hN
theorem Bd.rev (h:Bd N p) (i j:Nat):Bd N (kas_rev p i j):=(mirror_perm p i j _).trans h
theorem Bd.bub (h:Bd N p) (i j:Nat):Bd N (bubble p i j):=(bubble_perm p i j).trans h
theorem ZjK {i j:Nat} (hj:j<=p.size) (x:Nat):kk k (kas_rev p i j) x=if i<=x/\x<j then kk k p (i+j-1-x)else kk k p x:=by
 have e:=getElem?_mirror_all (xs:=p) (i:=i) hj x
 by_cases h:i<=x/\x<j
 ·rw[Yd h]at e⊢;exact ZdE e
 ·rw[Ye h]at e⊢;exact ZdE e
theorem Zfy {i j:Nat} (hj:j<=p.size) (heq:∀x,i<=x->x<j->kk k p x=kk k p (j-1)) (x:Nat):kk k (kas_rev p i j) x=kk k p x:=by
 rw[ZjK hj]
 split
 ·rw[heq _ (by omega) (by omega),heq x (by omega) (by omega)]
 ·rfl
theorem Zmu {src d:Nat} (hs:src<p.size) (hd:d<=src) (x:Nat):kk k (bubble p src d) x=if x=src-d then kk k p src else if src-d<x/\x<=src then kk k p (x-1)else kk k p x:=by
 have e:=getElem?_bubble hs d hd x
 by_cases h1:x=src-d
 ·rw[Yd h1]at e⊢;exact ZdE e
 ·rw[Ye h1]at e⊢
  by_cases h2:src-d<x/\x<=src
  ·rw[Yd h2]at e⊢;exact ZdE e
  ·rw[Ye h2]at e⊢;exact ZdE e
noncomputable def Zep (N:Nat) (k:Nat->Int) (cmp:Nat->Nat->(Bool->Shared->Prop)->Shared->Prop) (s:Shared):Prop:=∀i j C,i<N->j<N->C (decide (k i<k j)) s->cmp i j C s
theorem SoT.next {m:Nat} (h:SoT k p m) (h1:1<=m) (h2:kk k p (m-1)<=kk k p m):SoT k p (m+1):=by
 intro i j hij hj
 by_cases e:j=m
 ·subst e
  by_cases e2:i=j
  ·rw[e2];exact Int.le_refl _
  ·exact Int.le_trans (h i (j-1) (by omega) (by omega)) h2
 ·exact h i j hij (by omega)
theorem DeT.next {m:Nat} (h:DeT k p m) (h1:1<=m) (h2:kk k p m<=kk k p (m-1)):DeT k p (m+1):=by
 intro i j hij hj
 by_cases e:j=m
 ·subst e
  by_cases e2:i=j
  ·rw[e2];exact Int.le_refl _
  ·exact Int.le_trans h2 (h i (j-1) (by omega) (by omega))
 ·exact h i j hij (by omega)
theorem ZjL (hc:Zep N k cmp s) (hN:0<N) (hB:Bd N p) {Q:Nat->Shared->Prop}:∀f n,1<=n->SoT k p n->(∀m,n<=m->m<=n+f->SoT k p m->(m<n+f->kk k p m<kk k p (m-1))->Q m s)->(kas_asc p f n).kasWp cmp Q s
 |0,n,h1,hS,h=>h n (Ya _) (by omega) hS (λz=>by omega)
 |f+1,n,h1,hS,h=>by
  refine hc _ _ _ (hB.lt hN n) (hB.lt hN (n-1)) ?_
  by_cases z:kk k p n<kk k p (n-1)
  ·have:decide (k (p.getD n 0)<k (p.getD (n-1) 0))=true:=Yo z
   rw[this]
   exact h n (Ya _) (by omega) hS λ_=>z
  ·have:decide (k (p.getD n 0)<k (p.getD (n-1) 0))=false:=Yu z
   rw[this]
   exact ZjL hc hN hB f (n+1) (by omega) (hS.next h1 (by omega)) λm m1 m2 hm hl=>h m (by omega) (by omega) hm λy=>hl (by omega)
theorem Zgb (hc:Zep N k cmp s) (hN:0<N) {Q:Array Nat×Nat×Nat->Shared->Prop}:∀f (p:Array Nat) n q,Bd N p->1<=n->n+f<=N->q<n->DeT k p n->(∀x,n-(q+1)<=x->x<n->kk k p x=kk k p (n-1)) ->
  (∀p' n' q',Bd N p'->n<=n'->n'<=n+f->q'<n'->DeT k p' n'->(∀x,n'-(q'+1)<=x->x<n'->kk k p' x=kk k p' (n'-1))->Q (p',n',q') s)->(kas_desc f p n q).kasWp cmp Q s
 |0,p,n,q,hB,h1,hn,hq,hD,he,h=>h p n q hB (Ya _) (by omega) hq hD he
 |f+1,p,n,q,hB,h1,hn,hq,hD,he,h=>by
  refine hc _ _ _ (hB.lt hN n) (hB.lt hN (n-1)) ?_
  have hz:=hB.size
  by_cases z:kk k p n<kk k p (n-1)
  ·have:decide (k (p.getD n 0)<k (p.getD (n-1) 0))=true:=Yo z
   rw[this]
   show KasT.kasWp cmp (if q>0 then kas_desc f (kas_rev p (n-(q+1)) n) (n+1) 0 else kas_desc f p (n+1) 0) Q s
   by_cases y:q>0
   ·rw[Yd y]
    have ke:=Zfy (k:=k) (p:=p) (i:=n-(q+1)) (j:=n) (by omega) he
    refine Zgb hc hN f _ (n+1) 0 (hB.rev _ _) (by omega) (by omega) (by omega) ?_ (λx x1 x2=>by rw[show x=n+1-1 by omega]) λp' n' q' b1 b2 b3=>h p' n' q' b1 (by omega) (by omega)
    refine DeT.next (λi j i1 j1=>by rw[ke,ke];exact hD i j i1 j1) h1 (by rw[ke,ke];omega)
   ·rw[Ye y]
    exact Zgb hc hN f p (n+1) 0 hB (by omega) (by omega) (by omega) (hD.next h1 (by omega)) (λx x1 x2=>by rw[show x=n+1-1 by omega]) λp' n' q' b1 b2 b3=>h p' n' q' b1 (by omega) (by omega)
  ·have:decide (k (p.getD n 0)<k (p.getD (n-1) 0))=false:=Yu z
   rw[this]
   refine hc _ _ _ (hB.lt hN (n-1)) (hB.lt hN n) ?_
   by_cases y:kk k p (n-1)<kk k p n
   ·have:decide (k (p.getD (n-1) 0)<k (p.getD n 0))=true:=Yo y
    rw[this]
    exact h p n q hB (Ya _) (by omega) hq hD he
   ·have:decide (k (p.getD (n-1) 0)<k (p.getD n 0))=false:=Yu y
    rw[this]
    have e:kk k p n=kk k p (n-1):=by omega
    refine Zgb hc hN f p (n+1) (q+1) hB (by omega) (by omega) (by omega) (hD.next h1 (by omega)) (λx x1 x2=>?_) λp' n' q' b1 b2 b3=>h p' n' q' b1 (by omega) (by omega)
    rw[Nat.add_sub_cancel]
    by_cases w:x=n
    ·rw[w]
    ·rw[e];exact he x (by omega) (by omega)
theorem ZiP (hc:Zep N k cmp s) (hN:0<N) {Q:Nat×Array Nat->Shared->Prop}{n nrem:Nat} (hB:Bd N p) (h1:1<=n) (hn:n<=nrem) (hr:nrem<=N) (hD:DeT k p n)
  (h:∀m p',Bd N p'->n<=m->m<=nrem->SoT k p' m->Q (m,p') s):(kas_tail3 n nrem p).kasWp cmp Q s:=by
 unfold kas_tail3
 rw[KasT.kasWp_bind]
 have hz:=hB.size
 refine ZjL hc hN (hB.rev 0 n) _ n h1 (λi j hij hj=>?_) λm m1 m2 hS _=>h m _ (hB.rev 0 n) m1 (by omega) hS
 rw[ZjK (by omega),ZjK (by omega),Yd (by omega),Yd (by omega)]
 exact hD _ _ (by omega) (by omega)
theorem ZfH (hc:Zep N k cmp s) (hN:0<N) {Q:Nat×Array Nat->Shared->Prop}{n nrem:Nat} (hB:Bd N p) (hn:n+1<=nrem) (hr:nrem<=N) (hD:DeT k p (n+1))
  (h:∀m p',Bd N p'->1<=m->m<=nrem->SoT k p' m->Q (m,p') s):(kas_descPart n nrem p).kasWp cmp Q s:=by
 unfold kas_descPart
 rw[KasT.kasWp_bind]
 refine Zgb hc hN _ p (n+1) 0 hB (by omega) (by omega) (by omega) hD (λx x1 x2=>by rw[show x=n+1-1 by omega]) λp' n' q' b1 b2 b3 b4 hD' he=>?_
 show KasT.kasWp cmp (if q'>0 then kas_tail3 n' nrem (kas_rev p' (n'-(q'+1)) n')else kas_tail3 n' nrem p') Q s
 have hz:=b1.size
 by_cases y:q'>0
 ·rw[Yd y]
  have ke:=Zfy (k:=k) (p:=p') (i:=n'-(q'+1)) (j:=n') (by omega) he
  exact ZiP hc hN (b1.rev _ _) (by omega) (by omega) hr (λi j i1 j1=>by rw[ke,ke];exact hD' i j i1 j1) λm p2 c1 c2 c3=>h m p2 c1 (by omega) c3
 ·rw[Ye y]
  exact ZiP hc hN b1 (by omega) (by omega) hr hD' λm p2 c1 c2 c3=>h m p2 c1 (by omega) c3
theorem Zmv (hc:Zep N k cmp s) (hN:0<N) {Q:Nat×Array Nat->Shared->Prop}{nrem:Nat} (hB:Bd N p) (h0:1<=nrem) (hr:nrem<=N)
  (h:∀m p',Bd N p'->1<=m->m<=nrem->SoT k p' m->Q (m,p') s):(kas_count nrem p).kasWp cmp Q s:=by
 unfold kas_count
 rw[KasT.kasWp_bind]
 have hz:=hB.size
 refine ZjL hc hN hB _ 1 (Ya _) (λi j hij hj=>by rw[show i=j by omega];exact Int.le_refl _) λn n1 n2 hS hl=>?_
 by_cases e:(n==nrem)=true
 ·rw[Yd e]
  exact h n p hB n1 (by omega) hS
 ·rw[Ye e]
  have ne:n≠nrem:=λz=>e (by rw[z];exact beq_self_eq_true _)
  have hlt:=hl (by omega)
  by_cases y:n>1
  ·rw[Yd y]
   refine hc _ _ _ (hB.lt hN 0) (hB.lt hN (n-1)) ?_
   by_cases z:kk k p 0<kk k p (n-1)
   ·have:decide (k (p.getD 0 0)<k (p.getD (n-1) 0))=true:=Yo z
    rw[this]
    exact h n p hB n1 (by omega) hS
   ·have:decide (k (p.getD 0 0)<k (p.getD (n-1) 0))=false:=Yu z
    rw[this]
    have alle:∀x,0<=x->x<n->kk k p x=kk k p (n-1):=λx _ hx=>by
     have a:=hS 0 x (by omega) hx
     have b:=hS x (n-1) (by omega) (by omega)
     omega
    have ke:=Zfy (k:=k) (p:=p) (i:=0) (j:=n) (by omega) alle
    refine ZfH hc hN (hB.rev 0 n) (by omega) hr (DeT.next (λi j i1 j1=>?_) (by omega) (by rw[ke,ke];omega)) h
    rw[ke,ke,alle i (by omega) (by omega),alle j (by omega) (by omega)]
    exact Int.le_refl _
  ·rw[Ye y]
   have:n=1:=by omega
   subst this
   exact ZfH hc hN hB (by omega) hr (DeT.next (λi j i1 j1=>by rw[show i=j by omega];exact Int.le_refl _) (Ya _) (by omega)) h
theorem Zgx (hc:Zep N k cmp s) (hN:0<N) (hB:Bd N p) {x:Nat}{Q:Nat->Shared->Prop} (hS:SoT k p x):∀f l r,l<=r->r<=x->r-l<=f->(∀i,i<l->kk k p i<=kk k p x)->(∀i,r<=i->i<x->kk k p x<kk k p i) ->
  (∀l,l<=x->(∀i,i<l->kk k p i<=kk k p x)->(∀i,l<=i->i<x->kk k p x<kk k p i)->Q l s)->(kas_place p x f l r).kasWp cmp Q s
 |0,l,r,h1,h2,h3,hlo,hhi,h=>h l (by omega) hlo (λi i1 i2=>hhi i (by omega) i2)
 |f+1,l,r,h1,h2,h3,hlo,hhi,h=>by
  show KasT.kasWp cmp (if l ≥ r then .ret l else .ask (p.getD x 0) (p.getD ((l+r) / 2) 0) λc=>if c=true then kas_place p x f l ((l+r) / 2)else kas_place p x f ((l+r) / 2+1) r) Q s
  by_cases y:l ≥ r
  ·rw[Yd y]
   exact h l (by omega) hlo (λi i1 i2=>hhi i (by omega) i2)
  ·rw[Ye y]
   refine hc _ _ _ (hB.lt hN x) (hB.lt hN _) ?_
   by_cases z:kk k p x<kk k p ((l+r) / 2)
   ·have:decide (k (p.getD x 0)<k (p.getD ((l+r) / 2) 0))=true:=Yo z
    rw[this]
    exact Zgx hc hN hB hS f l ((l+r) / 2) (by omega) (by omega) (by omega) hlo (λi i1 i2=>Int.lt_of_lt_of_le z (hS _ _ i1 i2)) h
   ·have:decide (k (p.getD x 0)<k (p.getD ((l+r) / 2) 0))=false:=Yu z
    rw[this]
    exact Zgx hc hN hB hS f ((l+r) / 2+1) r (by omega) (by omega) (by omega) (λi i1=>Int.le_trans (hS i ((l+r) / 2) (by omega) (by omega)) (Int.not_lt.mp z)) hhi h
theorem Zmw (hc:Zep N k cmp s) (hN:0<N) {Q:Array Nat->Shared->Prop}:∀f (p:Array Nat) x,Bd N p->x+f<=N->SoT k p x->(∀p',Bd N p'->SoT k p' (x+f)->Q p' s)->(kas_bin f p x).kasWp cmp Q s
 |0,p,x,hB,hx,hS,h=>h p hB hS
 |f+1,p,x,hB,hx,hS,h=>by
  show KasT.kasWp cmp ((kas_place p x x 0 x).bind λl=>kas_bin f (bubble p x (x-l)) (x+1)) Q s
  rw[KasT.kasWp_bind]
  have hz:=hB.size
  refine Zgx hc hN hB hS x 0 x (by omega) (Ya _) (by omega) (λi hi=>by omega) (λi i1 i2=>by omega) λl hl hlo hhi=>?_
  refine Zmw hc hN f _ (x+1) (hB.bub _ _) (by omega) (λi j hij hj=>?_) λp' b1 b2=>h p' b1 (by rw[show x+(f+1)=x+1+f by omega];exact b2)
  rw[Zmu (by omega) (by omega),Zmu (by omega) (by omega),show x-(x-l)=l by omega]
  repeat' split
  all_goals first
   |(exfalso;omega)
   |exact Int.le_refl _
   |exact hlo _ (by omega)
   |exact Int.le_of_lt (hhi _ (by omega) (by omega))
   |exact hS _ _ (by omega) (by omega)
theorem ZnZ (hN:0<N) (hc:Zep N k cmp s) {Q:Array Nat->Shared->Prop} (h:∀p,Bd N p->SoT k p N->Q p s):(kas_sort N).kasWp cmp Q s:=by
 unfold kas_sort
 rw[KasT.kasWp_bind]
 refine Zmv hc hN (show Bd N (List.toArray (List.range N))from Array.Perm.refl _) (by omega) (Ya _) λm p' b1 b2 b3 b4=>?_
 show KasT.kasWp cmp (if m<N then kas_bin (N-max m 1) p' (max m 1)else .ret p') Q s
 by_cases y:m<N
 ·rw[Yd y]
  have e:max m 1=m:=by omega
  rw[e]
  exact Zmw hc hN _ p' m b1 (by omega) b4 λp2 c1 c2=>h p2 c1 (by rw[show m+(N-m)=N by omega]at c2;exact c2)
 ·rw[Ye y]
  have:m=N:=by omega
  subst this
  exact h p' b1 b4
end
section
variable {prog:Program}{w:World}{E:Value->Shared->Prop}{s:Shared}
noncomputable def ZfI (vs:List Value) (p:Array Nat):Array Value:=List.toArray (p.toList.map λi=>vs.getD i Value.none)
theorem ZjM {A:Around}{κ:SortKind}{key:Nat->Int}{a:Addr}{vs:List Value}{n:Nat}{P:PySem.Fin->Shared->Prop} (ho:s.heap.get? a=some (seqObj "list" vs.toArray n)) (h64:vs.length<64)
  (hk:∀s':Shared,(∀b o,b≠a->s.heap.get? b=some o->s'.heap.get? b=some o)->2<=vs.length->(∀Q:SortKind->Shared->Prop,Q κ s'->wpAny (model prog w) A (keyKind' vs.toArray) Q E s')/\Zep vs.length key (kas_ask prog w A κ vs) s')
  (fin:∀p:Array Nat,Bd vs.length p->SoT key p vs.length->P (.done (.ret .none)) {s with heap:=sortedHeap s.heap a vs (ZfI vs p)}):wpAny (model prog w) A (Builtin.«list.sort» ⟨[.ref a],[]⟩) P E s:=by
 have lt:=Yi ho
 obtain⟨c1,oc1⟩:∃c1,(s.heap.update a (Obj.mapSeq λ_=>#[])).get? a=some (seqObj "list" #[] c1):=⟨_,get?_update_seq ho λ_=>#[]⟩
 have oc6:(((s.heap.update a (Obj.mapSeq λ_=>#[])).push (seqObj "tuple" vs.toArray 0)).push (seqObj "list" #[] 0)).get? a=some (seqObj "list" #[] c1):=Ys _ (Ys _ oc1)
 have kp:∀b o,b≠a->s.heap.get? b=some o->(((s.heap.update a (Obj.mapSeq λ_=>#[])).push (seqObj "tuple" vs.toArray 0)).push (seqObj "list" #[] 0)).get? b=some o:=λb o nb e =>
  Ys _ (Ys _ (by rw[Heap.get?_update_ne _ _ _ _ nb];exact e))
 have z1:vs.toArray.size=vs.length:=Ym ..
 have za:∀p:Array Nat,Bd vs.length p->(ZfI vs p).size<=sizeLine:=λp hp=>by
  have:=hp.size
  unfold ZfI
  rw[Ym,Yc,YI,this,sizeLine_eq];omega
 rw[list_sort_plain]
 have hob:=ho
 refine Yf (listItems_at hob rfl (Yf ?_))
 refine listUpdate_at hob rfl (Yf (seqEpoch_at oc1 rfl (Yf ?_))) (by rw[z1,sizeLine_eq];omega) (Yr _)
 refine wpAny_newTuple (Yf ?_) (Yh (show vs.length<=64 by omega) (by decide))
 refine wpAny_newList (wpAny_holding ?_) (Yr _)
 show wpAny (model prog w) A _ P E {s with heap:=(((s.heap.update a (Obj.mapSeq λ_=>#[])).push (seqObj "tuple" vs.toArray 0)).push (seqObj "list" #[] 0))}
 dsimp only
 by_cases h2:vs.toArray.size<2
 ·rw[Yd h2,Yd h2]
  refine Yf (Yq ?_)
  rw[StateT.run_pure]
  refine Yf (Yq ?_)
  have hB:Bd vs.length (List.range vs.length).toArray:=Array.Perm.refl _
  have e:=kas_range (vs.toArray.zip vs.toArray)
  rw[show(vs.toArray.zip vs.toArray).size=vs.length by simp]at e
  have eo:(arrOf (SortSt.mk' general' (vs.toArray.zip vs.toArray) #[] 7 none)).map (·.2)=ZfI vs (List.range vs.length).toArray:=kat_snds (ks:=vs) (vs:=vs) rfl e.symm
  dsimp only
  rw[eo]
  refine Yf (seqEpoch_at oc6 rfl (Yf (listUpdate_at oc6 rfl ?_ (Yr _) (Nat.le_succ_of_le (za _ hB)))))
  simp only[bne_self_eq_false,Bool.false_eq_true,if_false]
  exact Yq (fin _ hB λi j h1 hj=>by rw[show i=j by omega];exact Int.le_refl _)
 ·rw[Ye h2,Ye h2]
  have h2':2<=vs.length:=by omega
  obtain⟨hk1,hk2⟩:=hk {s with heap:=(((s.heap.update a (Obj.mapSeq λ_=>#[])).push (seqObj "tuple" vs.toArray 0)).push (seqObj "list" #[] 0))} kp h2'
  refine Yf (hk1 _ (Yf (YR (kat_run (ks:=vs) (vs:=vs) (Q:=λst s'=>∃p:Array Nat,Bd vs.length p/\SoT key p vs.length/\arrOf st=p.map (kas_item (vs.toArray.zip vs.toArray))/\failedOf st=none/\s'={s with heap:=(((s.heap.update a (Obj.mapSeq λ_=>#[])).push (seqObj "tuple" vs.toArray 0)).push (seqObj "list" #[] 0))})
   (G:=λp s'=>Bd vs.length p/\SoT key p vs.length/\s'={s with heap:=(((s.heap.update a (Obj.mapSeq λ_=>#[])).push (seqObj "tuple" vs.toArray 0)).push (seqObj "list" #[] 0))}) rfl h2' h64 (λp st s' _ a2 a3 a4=>⟨p,a4.1,a4.2.1,a2,a3,a4.2.2⟩) (ZnZ (by omega) hk2 λp b1 b2=>⟨b1,b2,rfl⟩)) ?_ λ_ _ z=>z)))
  rintro⟨⟨⟩,st⟩ s' ⟨p,b1,b2,har,hf,rfl⟩
  have eo:(arrOf st).map (·.2)=ZfI vs p:=kat_snds (ks:=vs) (vs:=vs) rfl har
  dsimp only
  rw[eo]
  refine Yf (seqEpoch_at oc6 rfl (Yf (listUpdate_at oc6 rfl ?_ (Yr _) (Nat.le_succ_of_le (za _ b1)))))
  rw[hf]
  simp only[bne_self_eq_false,Bool.false_eq_true,if_false]
  exact Yq (fin p b1 b2)
theorem Zn0 {A:Around}{κ:SortKind}{key:Nat->Int}{l:Addr}{vs:List Value}{Q:Value->Shared->Prop} (hl:s.heap.IsList l vs.toArray) (h64:vs.length<64)
  (hk:∀(A':Around) (E':Value->Shared->Prop) (s':Shared),(∀b o,s.heap.get? b=some o->s'.heap.get? b=some o)->2<=vs.length->(∀Q:SortKind->Shared->Prop,Q κ s'->wpAny (model prog w) A' (keyKind' vs.toArray) Q E' s')/\Zep vs.length key (kas_ask prog w A' κ vs) s')
  (fin:∀p:Array Nat,Bd vs.length p->SoT key p vs.length->Q (.ref (s.heap.objs.size+1)) {s with heap:=sortedAll s.heap vs (ZfI vs p)}):wpAny (model prog w) A (call (.builtin "sorted") [.ref l]) Q E s:=by
 refine Calls.call_function_entry kind_sorted plain_sorted entry_sorted (args_sorted1 _) ?_
 unfold Builtin.«sorted»
 refine Yf (m:=checkCount "sorted" 1 1 _) (Yq (Yf (collect_list hl (Yf (wpAny_newList ?_ (by rw[sizeLine_eq];omega))) (by rw[sizeLine_eq];omega))))
 have z5:((s.heap.push (seqObj "list" #[] 0)).update s.heap.objs.size (Obj.mapSeq (·++vs.toArray))).objs.size=s.heap.objs.size+1:=(Heap.size_update ..).trans (size_push' ..)
 have o5:(((s.heap.push (seqObj "list" #[] 0)).update s.heap.objs.size (Obj.mapSeq (·++vs.toArray))).push (seqObj "list" vs.toArray 0)).get? (s.heap.objs.size+1)=some (seqObj "list" vs.toArray 0):=z5▸YD _ rfl
 have kp:∀b o,s.heap.get? b=some o->(((s.heap.push (seqObj "list" #[] 0)).update s.heap.objs.size (Obj.mapSeq (·++vs.toArray))).push (seqObj "list" vs.toArray 0)).get? b=some o:=λb o e=>by
  have hlt:=Yi e
  refine Ys _ ?_
  rw[Heap.get?_update_ne _ _ _ _ (Yv hlt)]
  exact Ys _ e
 show wpAny _ _ _ _ _ {s with heap:=(((s.heap.push (seqObj "list" #[] 0)).update s.heap.objs.size (Obj.mapSeq (·++vs.toArray))).push (seqObj "list" vs.toArray 0))}
 rw[z5]
 refine Yf (wpAny_holding (wpAny_call_entry slot_list_sort ⟨_,o5,rfl⟩ entry_list_sort (ZjM (κ:=κ) (key:=key) o5 h64 (λs' k6 h2=>hk _ _ s' (λb o e=>k6 b o (Yv (YV (Yi e))) (kp b o e)) h2) λp b1 b2=>⟨_,rfl,?_⟩) (args_list_sort _)))
 exact Yq ⟨_,rfl,fin p b1 b2⟩
end
theorem Zhz {B:List Nat}{n:Nat} (hB:B.Nodup) (hlt:∀q∈B,q<n):(List.range n).countP (λp=>decide (p∈B))=B.length:=by
 rw[List.countP_eq_length_filter]
 refine List.Perm.length_eq ((List.perm_ext_iff_of_nodup (List.nodup_range.filter _) hB).mpr λa=>?_)
 rw[YL,YC,decide_eq_true_iff]
 exact⟨λh=>h.2,λh=>⟨hlt a h,h⟩⟩
end L2
namespace L2
open PySem PySem.Spec PyProof.Rows PySem.W
end L2
namespace L2
noncomputable def Ok:Nat->List Nat->Prop
 |_,[]=>True
 |st,d::ds=>d<=st/\Ok (st-d+1) ds
end L2
namespace L2
open PySem PySem.Spec PyProof.Rows PySem.W
end L2
namespace L2
open PySem PySem.Spec PyProof.Rows PySem.W
end L2
namespace L2
open PySem PySem.Spec PyProof.Rows
end L2
namespace L2
open PySem PySem.Spec PyProof.Rows PySem.W PySem.Calls
end L2
namespace L2
open PySem PySem.Spec PyProof.Rows PySem.W
noncomputable abbrev Zf0 (h:Heap) (T:Addr) (a b c:Value):Prop:=h.get? T=some {cls:=.type "tuple",data:=.seq #[a,b,c]}
end L2
namespace L2
open PySem PySem.Spec PyProof.Rows PySem.W PySem.Calls
end L2
namespace L2
open PySem PySem.Spec PyProof.Rows PySem.W
section
variable {ky:Keyed->Int}
noncomputable def Srt (ky:Keyed->Int) (l:List Keyed):Prop:=l.Pairwise (λx y=>ky x<=ky y)
variable {a b out:List Keyed}{ia ib:Nat}
noncomputable def Gd (ky:Keyed->Int) (a b res:List Keyed):Prop:=res.Perm (a++b)/\Srt ky res
variable {prog:Program}{w:World}{A:Around}{E:Value->Shared->Prop}{s:Shared}{κ:SortKind}{P:Keyed->Prop}
end
section
variable {ky:Keyed->Int}
noncomputable def kp (ky:Keyed->Int) (a:Array Keyed) (i:Nat):Int:=ky (a.getD i (Value.none,Value.none))
theorem kp_at {a:Array Keyed}{i:Nat} (h:i<a.size):kp ky a i=ky a[i]:=by unfold kp;simp[Array.getD,h]
noncomputable def SoR (ky:Keyed->Int) (a:Array Keyed) (l r:Nat):Prop:=∀i j,l<=i->i<=j->j<r->kp ky a i<=kp ky a j
structure Chg (a a':Array Keyed) (l r:Nat):Prop where
 perm:a'.Perm a
 same:∀i,i<l\/r<=i->a'[i]?=a[i]?
variable {prog:Program}{w:World}{A:Around}{E:Value->Shared->Prop}{s:Shared}{κ:SortKind}{P:Keyed->Prop}
end
section
variable {ky:Keyed->Int}
variable {a a':Array Keyed}
theorem Zky (base:Nat):∀(m:List Keyed) (n:Nat) (a:Array Keyed),base+n+m.length<=a.size ->
  (List.foldl (λ(a:Array Keyed) (x:Keyed×Nat)=>a.setIfInBounds (base+x.2) x.1) a (m.zipIdx n)).toList=a.toList.take (base+n)++m++a.toList.drop (base+n+m.length)
 |[],n,a,h=>by simp
 |x::m,n,a,h=>by
  simp only[YN]at h
  rw[List.zipIdx_cons,List.foldl_cons,Zky base m (n+1) _ (by simp;omega)]
  simp only[Array.toList_setIfInBounds,YN]
  have e1:(a.toList.set (base+n) x).take (base+(n+1))=a.toList.take (base+n)++[x]:=by
   rw[<-Nat.add_assoc,Y5,List.take_set,List.getElem?_set]
   rw[List.set_eq_of_length_le (by simp;omega)]
   simp[show base+n<a.size by omega]
  have e2:(a.toList.set (base+n) x).drop (base+(n+1)+m.length)=a.toList.drop (base+n+(m.length+1)):=by
   rw[List.drop_set_of_lt (by omega)]
   congr 1;omega
  rw[e1,e2]
  simp
variable {prog:Program}{w:World}{A:Around}{E:Value->Shared->Prop}{s:Shared}{κ:SortKind}{P:Keyed->Prop}
theorem laid {base mid r:Nat}{res:Array Keyed} (h1:base<=mid) (h2:mid<=r) (h3:r<=a.size) (hg:Gd ky (a.extract base mid).toList (a.extract mid r).toList res.toList) :
  ∃a':Array Keyed,List.foldl (λ(a:Array Keyed) (x:Keyed×Nat)=>a.setIfInBounds (base+x.2) x.1) a res.toList.zipIdx=a'/\Chg a a' base r/\SoR ky a' base r/\∀j,base<=j->j<r->∃t,base<=t/\t<r/\kp ky a' j=kp ky a t:=by
 have hlen:res.toList.length=r-base:=by
  have:=hg.1.length_eq
  simp only[YJ,YI,Array.size_extract]at this⊢;omega
 have key:=Zky base res.toList 0 a (by omega)
 have hb:base+0+res.toList.length=r:=by omega
 rw[hb,Nat.add_zero]at key
 refine⟨_,rfl,⟨?_,?_⟩,?_,?_⟩
 ·rw[Array.perm_iff_toList_perm,key]
  have e:a.toList=a.toList.take base++((a.extract base mid).toList++(a.extract mid r).toList)++a.toList.drop r:=by
   simp only[Array.toList_extract,List.extract_eq_drop_take]
   have:(a.toList.drop base).take (mid-base)++(a.toList.drop mid).take (r-mid)=(a.toList.drop base).take (r-base):=by
    have e2:r-base=(mid-base)+(r-mid):=by omega
    rw[e2,List.take_add,List.drop_drop]
    congr 3;omega
   rw[this]
   have e3:a.toList.drop r=(a.toList.drop base).drop (r-base):=by rw[List.drop_drop];congr 1;omega
   rw[e3,Y1,List.take_append_drop,List.take_append_drop]
  conv=>rhs;rw[e]
  exact List.Perm.append_right _ (List.Perm.append_left _ hg.1)
 ·intro i hi
  rw[<-Array.getElem?_toList,<-Array.getElem?_toList,key]
  have hl0:(a.toList.take base).length=base:=by simp;omega
  rcases hi with hi|hi
  ·rw[Y1,Y4 (by omega),List.getElem?_take_of_lt hi]
  ·rw[Y6 (by simp;simp at hlen;omega),List.getElem?_drop]
   congr 1
   simp only[YJ,hl0,hlen];omega
 all_goals
  have atm:∀j,(hj0:base<=j)->(hj:j<r)->kp ky (List.foldl (λ(a:Array Keyed) (x:Keyed×Nat)=>a.setIfInBounds (base+x.2) x.1) a res.toList.zipIdx) j=ky (res.toList[j-base]'(by omega)):=by
   intro j j1 j2
   have hl0:(a.toList.take base).length=base:=by simp;omega
   have:(List.foldl (λ(a:Array Keyed) (x:Keyed×Nat)=>a.setIfInBounds (base+x.2) x.1) a res.toList.zipIdx)[j]?=some (res.toList[j-base]'(by omega)):=by
    rw[<-Array.getElem?_toList,key,Y1,Y6 (by omega),Y4 (by omega),hl0,Yb (by omega)]
   unfold kp
   rw[Array.getD_eq_getD_getElem?,this];rfl
 ·intro i j hi hij hj
  rw[atm i hi (by omega),atm j (by omega) hj]
  by_cases e:i=j
  ·subst e;exact Int.le_refl _
  ·exact List.pairwise_iff_getElem.mp hg.2 _ _ _ _ (by omega)
 ·intro j j1 j2
  rw[atm j j1 j2]
  have hm:(res.toList[j-base]'(by omega))∈(a.extract base mid).toList++(a.extract mid r).toList:=(List.Perm.mem_iff hg.1).mp (YA _)
  rcases Yl.mp hm with hm|hm
  ·obtain⟨t,ht,e⟩:=List.mem_iff_getElem.mp hm
   simp only[YI,Array.size_extract]at ht
   simp only[Array.getElem_toList,Array.getElem_extract]at e
   exact⟨base+t,by omega,by omega,by rw[kp_at (by omega),e,Array.getElem_toList]⟩
  ·obtain⟨t,ht,e⟩:=List.mem_iff_getElem.mp hm
   simp only[YI,Array.size_extract]at ht
   simp only[Array.getElem_toList,Array.getElem_extract]at e
   exact⟨mid+t,by omega,by omega,by rw[kp_at (by omega),e,Array.getElem_toList]⟩
end
end L2
namespace L2
open PySem PySem.Spec PyProof.Rows
end L2
namespace L2
open PySem PySem.Spec PyProof.Rows PySem.W
end L2
namespace L2
open PySem PySem.Spec PyProof.Rows PySem.W PySem.Calls
end L2
namespace L2
open PySem PySem.Spec PyProof.Rows PySem.W
section
variable {X:Cx}
noncomputable def Zli (a:Addr) (n:Nat):Heap->Prop:=λh=>∃o es ep t,h.get? a=some o/\o.ExactSet/\o.data=.set es ep t/\t.fits es.size=true/\es.size=n/\n<scanBound
noncomputable def Zc1 (ns:List Int):Nat:=(firstMet (λi=>ns.getD i 0) ns.length).length
noncomputable def Zmx (K:Frag):List V->Hp->VK->Prop:=λxs H Q=>∃(p:Addr) (ns:List Int),xs=[.ref p]/\SqL K H p (ns.map V.int)/\ns.length<=1000/\∀q,H q=none->Q (.ref q) (upd H q (.ext (Zli q (Zc1 ns))))
theorem Zlj {K:Frag} (hK:X.K=K) (hc:X.calm=true):ZaI X (.type "set") (Zmx K):=by
 subst hK
 intro pins s σ H xs us Q I r h
 obtain⟨p,ns,rfl,hp,hn,q⟩:=h
 obtain⟨u,rfl,ru⟩:=r.one
 cases(show u=Value.ref p from ru)
 obtain⟨its,rv,pl,hz⟩:=I.list hp
 have hi:IntsAre its ns:=intsAre_of rv
 have hl:its.length=ns.length:=by have:=rv.length;rw[Yc]at this;exact this.symm
 have hsz:its.toArray.size=ns.length:=by rw[Ym,hl]
 refine PySem.call_set_list (items:=its.toArray) (ns:=ns) (I.ok.hd hc) pl.isList (by simpa using hi) (by rw[hsz];unfold scanBound;omega) λh' tk hS hk=>?_
 rw[hsz]at hS
 obtain⟨o,es,ep,t,g1,g2,g3,g4,g5,g6,g7,g8⟩:=hS
 refine⟨.ref s.heap.objs.size,_,I.laid (t':=tk) (a:=s.heap.objs.size) (o:=.ext (Zli s.heap.objs.size (Zc1 ns))) (λb o e=>hk b o (Yi e) e) (Ya _) ⟨⟨o,es,ep,t,g1,g2,g3,g7,g8,by unfold Zc1;rw[<-g8];exact g6⟩,⟨_,g1⟩,λh1 h2 e k=>?_⟩,rfl,q _ (I.hok.fresh (Ya _))⟩
 obtain⟨o,es,ep,t,a1,a2⟩:=e
 exact⟨o,es,ep,t,k o a1,a2⟩
noncomputable def Zkz:List V->Hp->VK->Prop:=λxs H Q=>∃(q:Addr) (n:Nat),xs=[.ref q]/\H q=some (.ext (Zli q n))/\Q (.int n) H
theorem ZiQ:ZaI X (.builtin "len") Zkz:=by
 intro pins s σ H xs us Q I r h
 obtain⟨q,n,rfl,hq,k⟩:=h
 obtain⟨u,rfl,ru⟩:=r.one
 cases(show u=Value.ref q from ru)
 obtain⟨o,es,ep,t,ho,hex,hd,hf,hn,hb⟩:=(show Zas X.prog X.w H s.heap q (.ext (Zli q n))from I.hok q _ hq).1
 subst hn
 refine PySem.call_len_set ho hex hd hf (by unfold scanBound at hb;omega) ⟨.int es.size,H,I.tok _,⟨_,rfl⟩,k⟩
theorem Ze8 (ns:List Int):∀i,i<=ns.length->(firstMet (λi=>ns.getD i 0) i).Nodup/\(∀x,x∈firstMet (λi=>ns.getD i 0) i↔x∈ns.take i)/\((firstMet (λi=>ns.getD i 0) i).length=i↔(ns.take i).Nodup)
 |0,_=>by simp[firstMet_zero]
 |i+1,h=>by
  obtain⟨h1,h2,h3⟩:=Ze8 ns i (by omega)
  have le:=firstMet_length_le (λi=>ns.getD i 0) i
  have e:ns.take (i+1)=ns.take i++[ns.getD i 0]:=by
   rw[Y5,Yj,Yb (by omega)];rfl
  have lt:(ns.take i).length=i:=by rw[YW];omega
  rw[firstMet_succ,e]
  have hc:((firstMet (λi=>ns.getD i 0) i).any (·==ns.getD i 0)=true)↔ns.getD i 0∈ns.take i:=by
   rw[<-h2,List.any_eq_true]
   exact⟨λ⟨x,hx,z⟩=>by rw[beq_iff_eq]at z;exact z▸hx,λhx=>⟨_,hx,by simp⟩⟩
  by_cases c:ns.getD i 0∈ns.take i
  ·have:step_dedup (firstMet (λi=>ns.getD i 0) i) (ns.getD i 0)=firstMet (λi=>ns.getD i 0) i:=by
    unfold step_dedup
    rw[Yd (hc.mpr c)]
   rw[this]
   refine⟨h1,λx=>?_,⟨λz=>by omega,λz=>?_⟩⟩
   ·rw[h2,Yl,YK]
    exact⟨.inl,λz=>z.elim id λz=>z▸c⟩
   ·exact absurd rfl ((List.nodup_append.mp z).2.2 _ c _ (by simp))
  ·have:step_dedup (firstMet (λi=>ns.getD i 0) i) (ns.getD i 0)=firstMet (λi=>ns.getD i 0) i++[ns.getD i 0]:=by
    unfold step_dedup
    rw[Ye (λz=>c (hc.mp z))]
   rw[this]
   refine⟨List.nodup_append.mpr ⟨h1,by simp,λa ha b hb=>?_⟩,λx=>?_,?_⟩
   ·rw[YK.mp hb]
    exact λz=>c ((h2 _).mp (z▸ha))
   ·rw[Yl,Yl,h2]
   ·rw[YJ,List.length_singleton,List.nodup_append]
    refine⟨λz=>⟨h3.mp (by omega),by simp,λa ha b hb=>?_⟩,λz=>by rw[h3.mpr z.1]⟩
    rw[YK.mp hb]
    exact λz=>c (z▸ha)
theorem ZfJ {ns:List Int}:Zc1 ns=ns.length↔ns.Nodup:=by
 have:=(Ze8 ns ns.length (Ya _)).2.2
 rwa [List.take_length]at this
theorem bt_set:bootBuiltins "set"=some (.type "set"):=by decide +kernel
theorem ZjN (ns:List Int):Zc1 ns<=ns.length:=firstMet_length_le _ _
end
noncomputable def lxI:List Int->List Int->Bool
 |[],[]=>false
 |[],_::_=>true
 |_::_,[]=>false
 |x::xs,y::ys=>if x=y then lxI xs ys else decide (x<y)
theorem Ze9 (x y:Int) (xs ys:List Int):lxI (x::xs) (y::ys)=if x=y then lxI xs ys else decide (x<y):=rfl
theorem ZkA:∀xs:List Int,lxI xs xs=false
 |[]=>rfl
 |x::xs=>by rw[Ze9,Yd rfl];exact ZkA xs
theorem ZjO:∀{xs ys zs:List Int},lxI xs ys=true->lxI ys zs=true->lxI xs zs=true
 |[],[],zs,h,_=>by cases h
 |[],y::ys,[],_,h=>by cases h
 |[],y::ys,z::zs,_,_=>rfl
 |x::xs,[],zs,h,_=>by cases h
 |x::xs,y::ys,[],_,h=>by cases h
 |x::xs,y::ys,z::zs,h1,h2=>by
  rw[Ze9]at h1 h2⊢
  by_cases a:x=y
  ·by_cases b:y=z
   ·rw[Yd a]at h1;rw[Yd b]at h2;rw[Yd (a.trans b)];exact ZjO h1 h2
   ·rw[Ye b]at h2
    have:=YQ h2
    rw[Ye (by omega)];exact Yo (by omega)
  ·rw[Ye a]at h1
   have:=YQ h1
   by_cases b:y=z
   ·rw[Ye (by omega)];exact Yo (by omega)
   ·rw[Ye b]at h2
    have:=YQ h2
    rw[Ye (by omega)];exact Yo (by omega)
theorem ZkB:∀{xs ys:List Int},lxI xs ys=false->lxI ys xs=false->xs=ys
 |[],[],_,_=>rfl
 |[],y::ys,h,_=>by cases h
 |x::xs,[],_,h=>by cases h
 |x::xs,y::ys,h1,h2=>by
  rw[Ze9]at h1 h2
  by_cases a:x=y
  ·rw[Yd a]at h1;rw[Yd a.symm]at h2;rw[a,ZkB h1 h2]
  ·rw[Ye a]at h1;rw[Ye (Ne.symm a)]at h2
   have:=of_decide_eq_false h1;have:=of_decide_eq_false h2;omega
theorem Zh1 {p q:Nat->Bool}:∀l:List Nat,(∀a∈l,p a=true->q a=true)->(l.filter p).length<=(l.filter q).length
 |[],_=>Ya _
 |a::l,h=>by
  have ih:=Zh1 l λb hb=>h b (YM _ hb)
  have ha:=h a YH
  rw[List.filter_cons,List.filter_cons]
  cases e:p a
  ·cases q a<;>simp<;>omega
  ·rw[ha e];simp;omega
theorem ZkC {p q:Nat->Bool}{b:Nat} (hp:p b=false) (hq:q b=true):∀l:List Nat,b∈l->(∀a∈l,p a=true->q a=true)->(l.filter p).length<(l.filter q).length
 |[],hb,_=>by cases hb
 |a::l,hb,h=>by
  have h':∀b∈l,p b=true->q b=true:=λb hb=>h b (YM _ hb)
  have ha:=h a YH
  rw[List.filter_cons,List.filter_cons]
  rcases Yk.mp hb with rfl|hb
  ·have:=Zh1 l h'
   rw[hp,hq];simp;omega
  ·have ih:=ZkC hp hq l hb h'
   cases e:p a
   ·cases q a<;>simp<;>omega
   ·rw[ha e];simp;omega
noncomputable def ZkD (rs:List (List Int)) (r:List Int):Int:=(((List.range rs.length).filter λj=>lxI (rs.getD j []) r).length:Nat)
theorem Zmy {rs:List (List Int)}{i j:Nat} (hi:i<rs.length) (hj:j<rs.length):decide (ZkD rs (rs.getD i [])<ZkD rs (rs.getD j []))=lxI (rs.getD i []) (rs.getD j []):=by
 unfold ZkD
 cases e:lxI (rs.getD i []) (rs.getD j [])
 ·refine Yu λz=>?_
  have:=Zh1 (p:=λa=>lxI (rs.getD a []) (rs.getD j [])) (q:=λa=>lxI (rs.getD a []) (rs.getD i [])) (List.range rs.length) λa _ h=>by
   cases e2:lxI (rs.getD j []) (rs.getD i [])
   ·rw[ZkB e e2];exact h
   ·exact ZjO h e2
  omega
 ·refine Yo ?_
  have:=ZkC (p:=λa=>lxI (rs.getD a []) (rs.getD i [])) (q:=λa=>lxI (rs.getD a []) (rs.getD j [])) (b:=i) (ZkA _) e (List.range rs.length) (YC.mpr hi) λa _ h=>ZjO h e
  omega
section
variable {prog:Program}{w:World}{E:Value->Shared->Prop}{s:Shared}
noncomputable def Pt (h:Heap) (v:Value) (r:List Int):Prop:=∃a o n vs,v=.ref a/\h.get? a=some o/\o.cls=.type "tuple"/\o.data=.seq vs n/\IntsAre vs.toList r
theorem Pt.keep {h h':Heap}{v:Value}{r:List Int} (p:Pt h v r) (k:∀b o,h.get? b=some o->h'.get? b=some o):Pt h' v r:=by
 obtain⟨a,o,n,vs,e,g,q⟩:=p
 exact⟨a,o,n,vs,e,k _ _ g,q⟩
theorem ZiR {h:Heap}:∀{vs:List Value},(∀v∈vs,∃r,r≠[]/\Pt h v r)->∃fs,KatTups h vs fs/\fs.length=vs.length/\∀f∈fs,∃x t,f=Value.int x t
 |[],_=>⟨[],trivial,rfl,λf hf=>by cases hf⟩
 |v::vs,hv=>by
  obtain⟨fs,h1,h2,h3⟩:=ZiR (λu hu=>hv u (YM _ hu))
  obtain⟨r,hr,a,o,n,us,rfl,e,c,d,hi⟩:=hv v YH
  obtain⟨us⟩:=us
  cases hi with
  |nil=>exact absurd rfl hr
  |cons x t hi' =>
   refine⟨.int x t::fs,KatTups.cons e c d rfl h1,by simp[h2],λf hf=>?_⟩
   rcases Yk.mp hf with rfl|hf
   ·exact⟨x,t,rfl⟩
   ·exact h3 f hf
theorem ZjP {A:Around}{vs:List Value}{Q:SortKind->Shared->Prop} (h2:2<=vs.length) (hv:∀v∈vs,∃r,r≠[]/\Pt s.heap v r) (h:Q (tuples' true) s):wpAny (model prog w) A (keyKind' vs.toArray) Q E s:=by
 obtain⟨fs,h1,hl,h3⟩:=ZiR hv
 refine kat_kind h1 (by omega) (T:=.type "int") (λf hf=>?_) (by decide) ?_
 ·obtain⟨x,t,rfl⟩:=h3 f hf
  exact .now
 ·rw[show(Value.type "int" != Value.type "tuple")=true by decide];exact h
theorem lexK {A:Around}{C:Bool->Shared->Prop}{fin:Bool}:∀{vs:List Value}{r:List Int}{vs':List Value}{r':List Int} (i:Nat),IntsAre vs r->IntsAre vs' r'->((vs.length<=vs'.length/\fin=decide (vs.length<vs'.length))\/(vs'.length<vs.length/\fin=false))->C (lxI r r') s->KatLex prog w A true fin C (vs.zip vs') i s
 |_,_,_,_,i,.nil,.nil,hf,h=>by
  rw[List.zip_nil_left]
  refine kat_nil ?_
  have:fin=false:=by rcases hf with⟨_,e⟩|⟨_,e⟩<;>simpa using e
  rw[this];exact h
 |_,_,_,_,i,.nil,.cons y t' _,hf,h=>by
  rw[List.zip_nil_left]
  refine kat_nil ?_
  have:fin=true:=by rcases hf with⟨_,e⟩|⟨z,e⟩<;>simp_all
  rw[this];exact h
 |_,_,_,_,i,.cons x t _,.nil,hf,h=>by
  rw[List.zip_nil_right]
  refine kat_nil ?_
  have:fin=false:=by rcases hf with⟨z,e⟩|⟨z,e⟩<;>simp_all
  rw[this];exact h
 |_,_,_,_,i,.cons x t hu,.cons y t' hu',hf,h=>by
  rw[List.zip_cons_cons]
  refine kat_cons (wpAny_eqBool_int ?_)
  rw[Ze9]at h
  by_cases e:x=y
  ·rw[show(x==y)=true from beq_iff_eq.mpr e]
   rw[Yd e]at h
   exact kat_yes (lexK (i+1) hu hu' (by simpa using hf) h)
  ·rw[show(x==y)=false from beq_eq_false_iff_ne.mpr e]
   rw[Ye e]at h
   refine kat_no ?_
   cases i with
   |zero=>exact oneLt_int h
   |succ i=>exact kat_one _ _ (PyProof.Rows.lt_int h)
theorem Zmz {A:Around}{v v':Value}{r r':List Int}{C:Bool->Shared->Prop} (p:Pt s.heap v r) (p':Pt s.heap v' r') (h:C (lxI r r') s):wpAny (model prog w) A (keyLt' (tuples' true) v v') C E s:=by
 obtain⟨a,o,n,vs,rfl,e,c,d,hi⟩:=p
 obtain⟨a',o',n',vs',rfl,e',c',d',hi'⟩:=p'
 refine kat_lt e d e' d' (lexK 0 hi hi' ?_ h)
 rw[YI,YI]
 by_cases z:vs.size<=vs'.size
 ·exact .inl ⟨z,rfl⟩
 ·exact .inr ⟨by omega,Yu (by omega)⟩
end
section
variable {X:Cx}
noncomputable def ZmA (K:Frag):List V->Hp->VK->Prop:=λxs H Q=>∃(p:Addr) (rs:List (List Int)),xs=[.ref p]/\Zav H p rs/\(∀r∈rs,r≠[])/\rs.length<64/\∀(rs':List (List Int)) (l:Addr) (H':Hp),rs'.Perm rs->H l=none->Zf H H'->Zav H' l rs'->Q (.ref l) H'
theorem Zh2 {K:Frag} (hK:X.K=K):ZaI X (.builtin "sorted") (ZmA K):=by
 subst hK
 intro pins s σ H xs us Q I r h
 obtain⟨p,rs,rfl,⟨as,hp,hla,hT⟩,hR,hn,q⟩:=h
 obtain⟨u,rfl,ru⟩:=r.one
 cases(show u=Value.ref p from ru)
 obtain⟨its,rv,pl,hz⟩:=I.list (SqL.of hp)
 have hl:its.length=rs.length:=by have:=rv.length;rw[Yc]at this;omega
 have hits:∀i (h1:i<its.length) (h2:i<as.length),its[i]=Value.ref as[i]:=λi h1 h2=>by
  obtain⟨v,e1,e2⟩:=rv.get (i:=i) (x:=V.ref as[i]) (by rw[Yt,Yb h2];rfl)
  rw[Yb h1]at e1
  cases e1
  exact e2
 have hPr:∀i (h1:i<its.length) (h2:i<rs.length),Pt s.heap its[i] rs[i]:=λi h1 h2=>by
  obtain⟨_,tv,hv,o,g,c,n,d⟩:=I.hok _ _ (hT i (by omega) h2)
  exact⟨as[i]'(by omega),o,n,_,hits i h1 (by omega),g,c,d,by simpa using intsAre_of hv⟩
 have hPm:∀v∈its,∃r,r≠[]/\Pt s.heap v r:=λv hv=>by
  obtain⟨i,h1,rfl⟩:=List.getElem_of_mem hv
  exact⟨_,hR _ (YA (show i<rs.length by omega)),hPr i h1 (by omega)⟩
 refine Zn0 (κ:=tuples' true) (key:=λi=>ZkD rs (rs.getD i [])) pl.isList (by omega) (λA' E' s' kp h2=>⟨λQ' hq=>ZjP h2 (λv hv=>?_) hq,λi j C hi hj hC=>?_⟩) λp' hB hS=>?_
 ·obtain⟨r,hr,hp⟩:=hPm v hv
  exact⟨r,hr,hp.keep kp⟩
 ·have hp1:=hPr i hi (by omega)
  have hp2:=hPr j hj (by omega)
  unfold kas_ask
  rw[show its.getD i Value.none=its[i] by simp[hi],show its.getD j Value.none=its[j] by simp[hj]]
  refine Zmz (hp1.keep kp) (hp2.keep kp) ?_
  have:=Zmy (rs:=rs) (i:=i) (j:=j) (by omega) (by omega)
  rw[this]at hC
  simpa[Yj,show i<rs.length by omega,show j<rs.length by omega]using hC
 ·have hsz:p'.size=rs.length:=hB.size.trans hl
  have hlt:∀i∈p'.toList,i<rs.length:=λi hi=>by
   have:=(Array.perm_iff_toList_perm.mp hB).mem_iff.mp hi
   simpa[hl]using this
  have sm:Zf H (upd H (s.heap.objs.size+1) (.lst ((p'.toList.map λi=>as.getD i 0).map V.ref))):=(Zf.refl H).upd (I.hok.fresh (YT _))
  refine⟨.ref (s.heap.objs.size+1),_,I.laid (t':=s.toks) (a:=s.heap.objs.size+1) (o:=.lst ((p'.toList.map λi=>as.getD i 0).map V.ref)) (λb o e=>sortedAll_old e) (YT _) ?_,rfl,q (p'.toList.map λi=>rs.getD i []) _ _ ?_ (I.hok.fresh (YT _)) sm ⟨_,Zb,by simp,λi i1 i2=>sm _ _ ?_⟩⟩
  ·obtain⟨n,e⟩:=sortedAll_at s.heap its (ZfI its p')
   refine⟨Yh (show _<=1000 by simp;omega) (by decide),(ZfI its p').toList,n,?_,by rw[e]⟩
   have key:∀(l:List Nat),(∀i∈l,i<rs.length)->Vals ((l.map λi=>as.getD i 0).map V.ref) (l.map λi=>its.getD i Value.none):=by
    intro l
    induction l with
    |nil=>intro _;exact .nil
    |cons a l ih =>
     intro hl'
     refine .cons ?_ (ih λi hi=>hl' i (YM _ hi))
     have ha:=hl' a YH
     have h1:a<its.length:=by omega
     have h2:a<as.length:=by omega
     show its.getD a Value.none=Value.ref (as.getD a 0)
     rw[show its.getD a Value.none=its[a] by simp[h1],show as.getD a 0=as[a] by simp[h2]]
     exact hits a h1 h2
   exact key _ hlt
  ·have:=(Array.perm_iff_toList_perm.mp hB).map λi=>rs.getD i []
   refine this.trans ?_
   have e:((List.range its.length).toArray.toList.map λi=>rs.getD i [])=rs:=by
    rw[hl]
    refine List.ext_getElem (by simp) λi i1 i2=>?_
    have:i<rs.length:=i2
    simp[Yj,this]
   rw[e]
  ·have i3:i<p'.toList.length:=by simpa using i1
   have hi:=hlt _ (YA i3)
   have h2:p'.toList[i]<as.length:=by omega
   have:=hT _ h2 hi
   have e1:(p'.toList.map λi=>as.getD i 0)[i]'(by simpa using i1)=as[p'.toList[i]]:=by rw[List.getElem_map,Yj,Yb h2];rfl
   have e2:(p'.toList.map λi=>rs.getD i [])[i]'(by simpa using i2)=rs[p'.toList[i]]:=by rw[List.getElem_map,Yj,Yb hi];rfl
   rw[e1,e2];exact this
end
end L2
namespace K40
open PySem PySem.Spec PyProof.Rows L2
open PySem.W (nsIn mg_of fnOf keepIn codeIn mg_none_of)
local macro_rules | `(tactic| walk_at "rd") => `(tactic| simp only [tIfS, tNot, Zkd, ZlY, rI0, rI, rU, tVar, tC, tB, tIf, tAndV, Zke, tCons, tNil, tAsg, tSeq, tRet, tNext, tOp, tUn, tAnd, tOr, tDrop, Zgd, gSub, tCB, tSl, Zl8, tLst, tTup, L2.start, tYes, gTup, ZlS, gNil, ZcX, Option.join_some, Option.join_none, rEq, rNe, ZnJ, ZnK, ZnL, ZnM, ZnN, ZnO, tBM, Bool.true_eq_false, YS, List.map_nil, List.cons_append, List.nil_append, YN, List.length_nil, List.replicate, List.append_nil, List.set_cons_zero, List.set_cons_succ, List.getElem?_cons_zero, List.getElem?_cons_succ, Option.some.injEq, V.int.injEq, V.bl.injEq, V.ref.injEq, List.cons.injEq, and_true, true_and, exists_eq_left, exists_eq_left', exists_and_left, exists_eq, decide_eq_true_eq, Bool.not_eq_true', decide_eq_false_iff_not, cxK, and_assoc, Bool.false_eq_true, ↓reduceIte, ZnI, Zk0, Zme, iRng1, iRng2, ZlV, iTup, iZip, rIxL, rIxT, rSetL, rCat, rIsi, rIntB, Zkq, Zmi, rLen, rLof, rTof, ZhV, iSeq, tBM0, rEqD, tRngV, rLstR, rIn, iEnum, Zku, Zkv, rAll, rIxQ, rSlL, tPart, Zkh, tSl, Zkk, ZnP, cOf_ty, Zl3, Zkl, V.str.injEq, Zmx, Zkz, ZmA, Ziw])
noncomputable def top (i:Nat):Stmt:=PySem.Challenge.pw_dipkin_k40_starts_judged.main.body.getD i (.Pass ⟨0,0,0,0⟩)
noncomputable abbrev Zad:Stmt:=top 4
noncomputable abbrev ZaB:Stmt:=top 5
noncomputable abbrev ZcS:Stmt:=top 6
noncomputable abbrev ZaW:Stmt:=top 7
noncomputable abbrev ZbP:Stmt:=top 8
noncomputable abbrev Zbn:Stmt:=top 9
noncomputable abbrev ZaC:Stmt:=top 10
noncomputable abbrev ZU:Stmt:=top 12
noncomputable abbrev Zae:Stmt:=top 13
noncomputable abbrev ZaX:Stmt:=top 15
noncomputable abbrev ZaY:Stmt:=top 16
noncomputable abbrev Zan:Stmt:=top 17
noncomputable abbrev Zbo:Stmt:=top 18
noncomputable abbrev ZaZ:Stmt:=top 19
noncomputable abbrev Za0:Stmt:=top 20
noncomputable abbrev Za1:Stmt:=top 21
noncomputable abbrev Zbp:Stmt:=top 22
noncomputable abbrev Zaf:Stmt:=top 23
noncomputable abbrev Za2:Stmt:=top 24
noncomputable abbrev Zbq:Stmt:=top 25
noncomputable abbrev ZaD:Stmt:=top 26
noncomputable abbrev ZaE:Stmt:=top 27
noncomputable abbrev Zbr:Stmt:=top 28
noncomputable abbrev ZQ:Stmt:=top 29
noncomputable abbrev Zao:Stmt:=top 30
noncomputable abbrev Zfa:Stmt:=top 31
structure Txt (K:PySem.W.Frag) (mg:Str->Option Value):Prop where
 b_all:mg "all"=none
 b_bool:mg "bool"=none
 b_enumerate:mg "enumerate"=none
 b_int:mg "int"=none
 b_isinstance:mg "isinstance"=none
 b_len:mg "len"=none
 b_list:mg "list"=none
 b_max:mg "max"=none
 b_min:mg "min"=none
 b_range:mg "range"=none
 b_set:mg "set"=none
 b_sorted:mg "sorted"=none
 b_tuple:mg "tuple"=none
 b_zip:mg "zip"=none
 c_DipError:mg "DipError"=some (.ref (clsAt mg "DipError"))
 x_DipError:PySem.W.excIn K (clsAt mg "DipError") bmV newV=true
 c_Empty:mg "Empty"=some (.ref (clsAt mg "Empty"))
 x_Empty:PySem.W.excIn K (clsAt mg "Empty") bmV newV=true
noncomputable abbrev SpT:=PySem.W.Frag->(Str->Option Value)->Sp
noncomputable def ZkE (K:PySem.W.Frag):Sp:=λvs H Q E=>∃(a:Addr) (ns:List Int),vs=[.ref a]/\SqL K H a (ns.map V.int)/\ns.length<=63/\∀H',Q (.bl true) H'
noncomputable def Zc2:SpT:=λK mg vs H Q E=>∃cell:Int,vs=[.int cell]/\∀p H',H p=none->Zf H H'->Zz H' p->Q (.ref p) H'
noncomputable def ZY:SpT:=λK mg vs H Q E=>∃(p:Addr) (many:Int),vs=[.ref p,.int many]/\0<many/\many<=4000000000/\Zz H p/\∀d H',0<=d->d<many->Zz H' p->Exc p H H'->Q (.int d) H'
noncomputable def ZbU:SpT:=λK mg vs H Q E=>∃(p:Addr) (many:Int),vs=[.ref p,.int many]/\0<=many/\many<=1000/\Zz H p/\∀(r:Addr) (ns:List Int) H',H r=none->(ns.length:Int)=many->H' r=some (.lst (ns.map V.int))->Zz H' p->Exc p H H'->Q (.ref r) H'
noncomputable def ZdF:SpT:=λK mg vs H Q E=>∃(p:Addr) (most:Int),vs=[.ref p,.int most]/\0<=most/\most<=1000/\Zz H p/\∀(r:Addr) (ns:List Int) H',H r=none->(ns.length:Int)<=most->H' r=some (.lst (ns.map V.int))->Zz H' p->Exc p H H'->Q (.ref r) H'
noncomputable def Zc3:SpT:=λK mg vs H Q E=>∃(r:Addr) (ns:List Int),vs=[.ref r]/\H r=some (.lst (ns.map V.int))/\ns.length<=1000/\∀(t:Addr) (es:List Int) H',ZR ns es->Zf H H'->H' t=some (.tup (es.map V.int))->Q (.ref t) H'
noncomputable def Zc4:SpT:=λK mg vs H Q E=>∃(t:Addr) (T:List Int) (p:Nat),vs=[.ref t,.int p]/\H t=some (.tup (T.map V.int))/\T.length<=1000/\p<T.length/\ZbB T T.length (nth T p)/\∀(w:Addr) H',H w=none->Zf H H'->H' w=some (.lst ((wayI T p).map V.int))->Q (.ref w) H'
noncomputable def Zc5:SpT:=λK mg vs H Q E=>∃(t:Addr) (T:List Int),vs=[.ref t]/\H t=some (.tup (T.map V.int))/\T.length<=1000/\(∀p,p<T.length->ZbB T T.length (nth T p))/\∀(w:Addr) H',H w=none->Zf H H'->H' w=some (.lst ((Zau T).map V.int))->Q (.ref w) H'
noncomputable def ZdG:SpT:=λK mg vs H Q E=>∃(r r':Addr) (ns ms:List Int),vs=[.ref r,.ref r']/\H r=some (.lst (ns.map V.int))/\H r'=some (.lst (ms.map V.int))/\ns.length<=1000/\ms.length<=1000/\∀(b:Bool) H',(b=true↔ns.length=ms.length/\ZeB (nth ns) (nth ms) ns.length)->Zf H H'->Q (.bl b) H'
noncomputable def ZbC:SpT:=λK mg vs H Q E=>∃(p r:Addr) (ns:List Int),vs=[.ref p,.ref r]/\Zz H p/\r≠p/\H r=some (.lst (ns.map V.int))/\ns.length<=50/\∀(l:Addr) (ms:List Int) H',H l=none->ms.length=ns.length->H' l=some (.lst (ms.map V.int))->Zz H' p->Exc p H H'->ZeB (nth ns) (nth ms) ns.length->Q (.ref l) H'
noncomputable def ZaL:SpT:=λK mg vs H Q E=>∃(r:Addr) (ns:List Int) (k:Int),vs=[.ref r,.int k]/\(SqL K H r (ns.map V.int)\/SqT K H r (ns.map V.int))/\ns.length<=1000/\0<=k/\k<=1000/\(k<=ns.length->Q .non H)/\((ns.length:Int)<k->E (.ref (clsAt mg "Empty")) none H)
noncomputable def Zc6:SpT:=λK mg vs H Q E=>∃(p r:Addr) (ns:List Int),vs=[.ref p,.ref r]/\Zz H p/\r≠p/\H r=some (.lst (ns.map V.int))/\0<ns.length/\ns.length<=40/\∀(t:Addr) (ms:List Int) H',H t=none->ms.length<=40->H' t=some (.lst (ms.map V.int))->Zz H' p->Exc p H H'->Q (.ref t) H'
noncomputable def Zfz:SpT:=λK mg vs H Q E=>∃(r:Addr) (ns:List Int) (i j:Nat),vs=[.ref r,.int i,.int j]/\(SqL K H r (ns.map V.int)\/SqT K H r (ns.map V.int))/\i<ns.length/\j<ns.length/\Q (.int ((if nth ns j<nth ns i then j else i:Nat):Int)) H
noncomputable def Zc7:SpT:=λK mg vs H Q E=>∃(r:Addr) (ns:List Int),vs=[.ref r]/\(SqL K H r (ns.map V.int)\/SqT K H r (ns.map V.int))/\ns.length<=1000/\∀(l:Addr) H',Zf H H'->Rows H' l (ZaK (nth ns) ns.length)->Q (.ref l) H'
noncomputable def ZeC:SpT:=λK mg vs H Q E=>∃(l l':Addr) (f g:Nat->Int) (n n' x y size:Nat),vs=[.ref l,.ref l',.int x,.int y,.int size]/\Rows H l (ZaK f n)/\Rows H l' (ZaK g n')/\x+size<=n/\y+size<=n'/\n<=1000/\n'<=1000 /\
 (Zbm f g x y size->∀H',Zf H H'->Q .non H')/\(∀a m,Zmp f g x y size a m->∀(t:Addr) H',Zf H H'->H' t=some (.tup [.int (a:Nat),.int ((a+m:Nat):Int)])->Q (.ref t) H')
noncomputable def Zcj:SpT:=λK mg vs H Q E=>∃(r:Addr) (ns:List Int) (a c:Nat),vs=[.ref r,.int a,.int ((a+c:Nat):Int)]/\H r=some (.lst (ns.map V.int))/\a+c<ns.length/\ns.length<=1000/\∀H',Zf H H'->Q (.int (ZC (nth ns) a c:Nat)) H'
noncomputable def TupsU (H:Hp) (l:Addr) (rs:List (List Int)):Prop:=∃as:List Addr,H l=some (.tup (as.map V.ref))/\as.length=rs.length/\∀i (h1:i<as.length) (h2:i<rs.length),H as[i]=some (.tup (rs[i].map V.int))
noncomputable def Zgy (H:Hp) (l:Addr) (rs:List (List Int)):Prop:=Zav H l rs\/TupsU H l rs
theorem Zgy.same {H H':Hp}{l:Addr}{rs:List (List Int)} (R:Zgy H l rs) (s:Zf H H'):Zgy H' l rs:=by
 rcases R with R|⟨as,h1,h2,h3⟩
 ·exact .inl (R.same s)
 ·exact .inr ⟨as,s _ _ h1,h2,λi i1 i2=>s _ _ (h3 i i1 i2)⟩
noncomputable def WalkT (it:It) (H1:Hp) (rs:List (List Int)):Prop:=(∀i H,Zf H1 H->i<rs.length->it.go i H)/\(∀H,Zf H1 H->it.stop rs.length H) /\
  ∀i x H H' (h:i<rs.length),Zf H1 H->it.yld i H x H'->H'=H/\∃a,x=.ref a/\H a=some (.tup (rs[i].map V.int))
theorem Zgy.seq {K:PySem.W.Frag}{H1:Hp}{d:Addr}{rs:List (List Int)}{g:TG}{tt:TT}{te:TE}{σ0:L2.St}{Q:VK} (R:Zgy H1 d rs) (h:∀it,WalkT it H1 rs->ZdB it g tt te σ0 Q H1):((∃xs,SqL K H1 d xs)/\ZdB (Itl K d) g tt te σ0 Q H1)\/((∃xs,SqT K H1 d xs)/\ZdB (Itt K d) g tt te σ0 Q H1):=by
 rcases R with R|⟨as,e,hl,hh⟩
 ·exact .inl ⟨R.sq,h _ R.walk⟩
 ·refine .inr ⟨⟨_,SqT.of e⟩,h _ ⟨λi H s hi=>⟨_,V.ref (as[i]'(by omega)),SqT.of (s _ _ e),by simp[show i<as.length by omega]⟩,λH s=>⟨_,SqT.of (s _ _ e),by simp[hl]⟩,λi x H H' hi s y=>?_⟩⟩
  obtain⟨e1,y⟩:=y
  have h1:=y _ (SqT.of (s _ _ e))
  rw[Yt,Yb (show i<as.length by omega)]at h1
  cases h1
  exact⟨e1,_,rfl,s _ _ (hh i (by omega) hi)⟩
noncomputable def WalkI (it:It) (H1:Hp) (ns:List Int):Prop:=(∀i H,Zf H1 H->i<ns.length->it.go i H)/\(∀H,Zf H1 H->it.stop ns.length H) /\
  ∀i x H H' (h:i<ns.length),Zf H1 H->it.yld i H x H'->H'=H/\x=.int ns[i]
theorem ZmB {K:PySem.W.Frag}{H1:Hp}{d:Addr}{ns:List Int}{g:TG}{tt:TT}{te:TE}{σ0:L2.St}{Q:VK} (R:SqL K H1 d (ns.map V.int)\/SqT K H1 d (ns.map V.int)) (h:∀it,WalkI it H1 ns->ZdB it g tt te σ0 Q H1):((∃xs,SqL K H1 d xs)/\ZdB (Itl K d) g tt te σ0 Q H1)\/((∃xs,SqT K H1 d xs)/\ZdB (Itt K d) g tt te σ0 Q H1):=by
 rcases R with R|R
 ·refine .inl ⟨⟨_,R⟩,h _ ⟨λi H s hi=>⟨_,_,s.seq R,Yb (by simpa using hi)⟩,λH s=>⟨_,s.seq R,by simp⟩,λi x H H' hi s y=>?_⟩⟩
  have h1:=y.2 _ (s.seq R)
  rw[Yt,Yb hi]at h1
  cases h1
  exact⟨y.1,rfl⟩
 ·refine .inr ⟨⟨_,R⟩,h _ ⟨λi H s hi=>⟨_,_,s.seqT R,Yb (by simpa using hi)⟩,λH s=>⟨_,s.seqT R,by simp⟩,λi x H H' hi s y=>?_⟩⟩
  have h1:=y.2 _ (s.seqT R)
  rw[Yt,Yb hi]at h1
  cases h1
  exact⟨y.1,rfl⟩
noncomputable def Zcz:SpT:=λK mg vs H Q E=>∃n a b:Int,vs=[.int n,.int a,.int b]/\((0<=a/\a<=b/\b<n)->Q (.bl true) H)/\(¬ (0<=a/\a<=b/\b<n)->Q (.bl false) H)
noncomputable def ZdH:SpT:=λK mg vs H Q E=>∃(l l':Addr) (f g:Nat->Int) (n n' y a m:Nat),vs=[.ref l,.ref l',.int 0,.int y,.int a,.int ((a+m:Nat):Int)]/\Rows H l (ZaK f n)/\Rows H l' (ZaK g n')/\a+m<n/\y+a+m<n'/\n<=1000/\n'<=1000/\Q (.bl (decide ((ZC f a m:Int)-(a:Nat)≠(ZC g (y+a) m:Int)-(y+a:Nat)))) H
noncomputable def ZcA:SpT:=λK mg vs H Q E=>∃(l:Addr) (os:List (List Int)),vs=[.ref l]/\Zgy H l os/\os.length<=1000/\∀H',Zf H H'->Q (.bl true) H'
noncomputable def ZaP:SpT:=λK mg vs H Q E=>∃(k:Int) (s l:Addr) (ss ls:List Int),vs=[.int k,.ref s,.ref l]/\k<=1000/\-1000<=k/\H s=some (.lst (ss.map V.int))/\H l=some (.lst (ls.map V.int))/\ss.length<=1000/\ls.length<=1000/\∀H',Zf H H'->Q (.bl (decide (Once k.toNat ss ls))) H'
noncomputable def Zh3 (ns ms ss:List Int) (os:List (List Int)):Prop:=Once (ms.length+1-ns.length) ss (os.map λo=>o.getD 0 0)/\(∀o∈os,∃s a m:Nat,o=[(s:Int),(a:Int),((a+m:Nat):Int)]/\a+m<ns.length/\(ZC (nth ns) a m:Int)-(a:Nat)≠(ZC (nth ms) (s+a) m:Int)-(s+a:Nat))/\∀s:Nat,(s:Int)∈ss->Zbm (nth ns) (nth ms) 0 s ns.length
noncomputable def ZbD:SpT:=λK mg vs H Q E=>∃(r t s l:Addr) (ns ms ss:List Int) (os:List (List Int)),vs=[.ref r,.ref t,.ref s,.ref l]/\(SqL K H r (ns.map V.int)\/SqT K H r (ns.map V.int))/\(SqL K H t (ms.map V.int)\/SqT K H t (ms.map V.int))/\ns.length<=1000/\ms.length<=1000/\(SqL K H s (ss.map V.int)\/SqT K H s (ss.map V.int))/\ss.length<=1000/\Zgy H l os/\os.length<=1000/\(∀o∈os,o.length=3) /\
 0<ns.length/\∀(b:Bool) H',(b=true↔Zh3 ns ms ss os)->Zf H H'->Q (.bl b) H'
noncomputable def Zf0 (H:Hp) (a:Addr):Prop:=∃x y z:Int,H a=some (.tup [.int x,.int y,.int z])
noncomputable def ZcT (H:Hp) (l:Addr) (n:Nat):Prop:=∃as:List Addr,H l=some (.lst (as.map V.ref))/\as.length<=n/\∀a∈as,Zf0 H a
noncomputable def Nums (H:Hp) (l:Addr) (n:Nat):Prop:=∃ss:List Int,H l=some (.lst (ss.map V.int))/\ss.length<=n
theorem Zgz {H:Hp}:∀{as:List Addr},(∀a∈as,Zf0 H a)->∃os:List (List Int),as.length=os.length/\(∀i (h1:i<as.length) (h2:i<os.length),H as[i]=some (.tup (os[i].map V.int)))/\∀o∈os,o.length=3
 |[],_=>⟨[],rfl,λi h=>absurd h (by simp),λo h=>by cases h⟩
 |a::as,h=>by
  obtain⟨os,h1,h2,h3⟩:=Zgz λb hb=>h b (YM _ hb)
  obtain⟨x,y,z,e⟩:=h a YH
  refine⟨[x,y,z]::os,by simp[h1],λi i1 i2=>?_,λo ho=>?_⟩
  ·cases i with
   |zero=>exact e
   |succ i=>exact h2 i (by simpa using i1) (by simpa using i2)
  ·rcases Yk.mp ho with rfl|ho
   ·rfl
   ·exact h3 o ho
theorem ZcT.tups {H:Hp}{l:Addr}{n:Nat} (h:ZcT H l n):∃os,Zav H l os/\os.length<=n/\∀o∈os,o.length=3:=by
 obtain⟨as,h1,h2,h3⟩:=h
 obtain⟨os,h4,h5,h6⟩:=Zgz h3
 exact⟨os,⟨as,h1,h4,h5⟩,by omega,h6⟩
theorem ZiS {o:List Int} (h:o.length=3):∃x y z,o=[x,y,z]:=by
 match o,h with
 |[x,y,z],_=>exact⟨x,y,z,rfl⟩
theorem ZjQ {H:Hp}{l:Addr}{os:List (List Int)} (h:Zav H l os) (h3:∀o∈os,o.length=3):ZcT H l os.length:=by
 obtain⟨as,h1,h2,h4⟩:=h
 refine⟨as,h1,Nat.le_of_eq h2,λa ha=>?_⟩
 obtain⟨i,hi,rfl⟩:=List.getElem_of_mem ha
 have:=h4 i hi (by omega)
 obtain⟨x,y,z,e⟩:=ZiS (h3 _ (YA (show i<os.length by omega)))
 rw[e]at this
 exact⟨x,y,z,this⟩
theorem Zf0.same {H H':Hp}{a:Addr} (h:Zf0 H a) (s:Zf H H'):Zf0 H' a:=by obtain⟨x,y,z,e⟩:=h;exact⟨x,y,z,s _ _ e⟩
theorem Zf0.keep {H H':Hp}{a p:Addr}{xs:List V} (h:Zf0 H a) (hp:H p=some (.lst xs)) (s:Exc p H H'):Zf0 H' a:=by obtain⟨x,y,z,e⟩:=h;exact⟨x,y,z,s _ _ (λq=>by rw[q,hp]at e;cases e) e⟩
noncomputable def ZcB:SpT:=λK mg vs H Q E=>∃(p r t:Addr) (ns ms:List Int),vs=[.ref p,.ref r,.ref t]/\Zz H p/\r≠p/\t≠p/\H r=some (.lst (ns.map V.int))/\H t=some (.lst (ms.map V.int))/\0<ns.length/\ns.length<=40/\ms.length<=40/\∀(q s l:Addr) H',Zz H' p->Exc p H H'->s≠p->l≠p->H' q=some (.tup [.ref s,.ref l])->Nums H' s 41->ZcT H' l 41->Q (.ref q) H'
noncomputable def ZcC:SpT:=λK mg vs H Q E=>∃(r:Addr) (ns:List Int),vs=[.ref r]/\H r=some (.lst (ns.map V.int))/\ns.length<=1000/\∀(b:Bool) H',(b=true↔ns.Pairwise (· < ·))->Zf H H'->Q (.bl b) H'
noncomputable def ZdI:SpT:=λK mg vs H Q E=>∃(r t s l:Addr) (ns ms ss:List Int) (os:List (List Int)),vs=[.ref r,.ref t,.ref s,.ref l]/\H r=some (.lst (ns.map V.int))/\H t=some (.lst (ms.map V.int))/\H s=some (.lst (ss.map V.int))/\Zav H l os/\(∀o∈os,o.length=3)/\0<ns.length/\ns.length<=40/\ms.length<=40/\ss.length<=100/\os.length<=100/\∀(b:Bool) H',(b=true↔Zh3 ns ms ss os)->Zf H H'->Q (.bl b) H'
noncomputable def ZaH:SpT:=λK mg vs H Q E=>∃(s l z:Addr) (way at' spot n m:Int) (k k':Nat),vs=[.ref s,.ref l,.int way,.int at',.int spot,.ref z]/\0<=at'/\0<=spot/\H z=some (.tup [.int n,.int m])/\Nums H s k/\ZcT H l k'/\k<=1000/\k'<=1000/\∀(q s' l':Addr) H',Zf H H'->(s'=s\/H s'=none)->(l'=l\/H l'=none)->H' q=some (.tup [.ref s',.ref l'])->Nums H' s' (k+1)->ZcT H' l' (k'+1)->Q (.ref q) H'
noncomputable def ZbV:SpT:=λK mg vs H Q E=>∃(p r t s l:Addr) (ns ms:List Int) (k k':Nat),vs=[.ref p,.ref r,.ref t,.ref s,.ref l]/\Zz H p/\r≠p/\t≠p/\s≠p/\l≠p/\H r=some (.lst (ns.map V.int))/\H t=some (.lst (ms.map V.int))/\0<ns.length/\ns.length<=40/\ms.length<=40/\Nums H s k/\ZcT H l k'/\k<=50/\k'<=50/\∀(q s' l':Addr) H',Zz H' p->Exc p H H'->H s'=none->H l'=none->H' q=some (.tup [.ref s',.ref l'])->Nums H' s' (k+1)->ZcT H' l' (k'+1)->Q (.ref q) H'
theorem Zlk {ns:List Int} (h:∀j,j+1<ns.length->nth ns j<nth ns (j+1)):ns.Pairwise (· < ·):=by
 have key:∀d i,i+d+1<ns.length->nth ns i<nth ns (i+d+1):=by
  intro d
  induction d with
  |zero=>intro i hi;exact h i hi
  |succ d ih=>intro i hi;exact Int.lt_trans (ih i (by omega)) (h (i+d+1) (by omega))
 rw[List.pairwise_iff_getElem]
 intro i j i1 j1 hij
 have:=key (j-i-1) i (by omega)
 rw[show i+(j-i-1)+1=j by omega]at this
 simpa[nth,Yj,i1,j1]using this
noncomputable def Prs (H:Hp) (l:Addr) (n:Nat):Prop:=∃as:List Addr,H l=some (.lst (as.map V.ref))/\as.length<=n/\∀a∈as,∃x y:Int,H a=some (.tup [.int x,.int y])
noncomputable def SpI (H:Hp) (p:Addr) (u v:Addr) (k k':Nat) (Hx:Hp):Prop:=Zz H p/\H u=none/\H v=none/\u≠v/\Zz Hx p/\Exc p H Hx/\Nums Hx u k/\ZcT Hx v k'
theorem SpI.mono {H Hx:Hp}{p u v:Addr}{k k' m m':Nat} (h:SpI H p u v k k' Hx) (h1:k<=m) (h2:k'<=m'):SpI H p u v m m' Hx:=by
 obtain⟨q,a,b,c,d,e,⟨ss,f,f'⟩,⟨as,g,g',g''⟩⟩:=h
 exact⟨q,a,b,c,d,e,⟨ss,f,by omega⟩,⟨as,g,by omega,g''⟩⟩
theorem SpI.setU {H Hx:Hp}{p u v:Addr}{k k' m:Nat}{xs:List V} (ss:List Int) (h:SpI H p u v k k' Hx) (e:xs=ss.map V.int) (hs:ss.length<=m):SpI H p u v m k' (upd Hx u (.lst xs)):=by
 subst e
 obtain⟨q,a,b,c,d,e,⟨ss',f,f'⟩,⟨as,g,g',g''⟩⟩:=h
 exact⟨q,a,b,c,d.ZcP (q.ne a),e.ZcP a,⟨ss,Zb,hs⟩,⟨as,by rw[Zq c.symm];exact g,g',λx hx=>by
  obtain⟨i,j,l,w⟩:=g'' x hx
  exact⟨i,j,l,by rw[Zq (λz=>by rw[z,f]at w;cases w)];exact w⟩⟩⟩
theorem SpI.setV {H Hx:Hp}{p u v:Addr}{k k' m:Nat}{xs:List V} (as:List Addr) (h:SpI H p u v k k' Hx) (e:xs=as.map V.ref) (hs:as.length<=m) (ht:∀a∈as,Zf0 Hx a):SpI H p u v k m (upd Hx v (.lst xs)):=by
 subst e
 obtain⟨q,a,b,c,d,e,⟨ss',f,f'⟩,⟨as',g,g',g''⟩⟩:=h
 exact⟨q,a,b,c,d.ZcP (q.ne b),e.ZcP b,⟨ss',by rw[Zq c];exact f,f'⟩,⟨as,Zb,hs,λx hx=>by
  obtain⟨i,j,l,w⟩:=ht x hx
  exact⟨i,j,l,by rw[Zq (λz=>by rw[z,g]at w;cases w)];exact w⟩⟩⟩
theorem SpI.same {H Hx Hy:Hp}{p u v:Addr}{k k':Nat} (h:SpI H p u v k k' Hx) (s:Zf Hx Hy):SpI H p u v k k' Hy:=by
 obtain⟨q,a,b,c,d,e,⟨ss,f,f'⟩,⟨as,g,g',g''⟩⟩:=h
 exact⟨q,a,b,c,d.same s,e.same s,⟨ss,s _ _ f,f'⟩,⟨as,s _ _ g,g',λx hx=>(g'' x hx).same s⟩⟩
theorem SpI.exc {H Hx Hy:Hp}{p u v:Addr}{k k':Nat} (h:SpI H p u v k k' Hx) (s:Exc p Hx Hy) (hP:Zz Hy p):SpI H p u v k k' Hy:=by
 obtain⟨q,a,b,c,d,e,⟨ss,f,f'⟩,⟨as,g,g',g''⟩⟩:=h
 obtain⟨y,hy,_⟩:=d
 exact⟨q,a,b,c,hP,e.trans s,⟨ss,s _ _ (q.ne a) f,f'⟩,⟨as,s _ _ (q.ne b) g,g',λx hx=>(g'' x hx).keep hy s⟩⟩
theorem SpI.newU {H Hx Hy:Hp}{p u v u':Addr}{k k' m:Nat} (ss:List Int) (h:SpI H p u v k k' Hx) (s:Zf Hx Hy) (z:Hx u'=none) (hs:Hy u'=some (.lst (ss.map V.int))) (hl:ss.length<=m):SpI H p u' v m k' Hy:=by
 obtain⟨q,a,b,c,d,e,⟨ss',f,f'⟩,⟨as,g,g',g''⟩⟩:=h
 exact⟨q,e.free (d.ne z) z,b,(λy=>by rw[y,g]at z;cases z),d.same s,e.same s,⟨ss,hs,hl⟩,⟨as,s _ _ g,g',λx hx=>(g'' x hx).same s⟩⟩
theorem SpI.newV {H Hx Hy:Hp}{p u v v':Addr}{k k' m:Nat} (as:List Addr) (h:SpI H p u v k k' Hx) (s:Zf Hx Hy) (z:Hx v'=none) (hs:Hy v'=some (.lst (as.map V.ref))) (hl:as.length<=m) (ht:∀a∈as,Zf0 Hy a):SpI H p u v' k m Hy:=by
 obtain⟨q,a,b,c,d,e,⟨ss',f,f'⟩,⟨as',g,g',g''⟩⟩:=h
 exact⟨q,a,e.free (d.ne z) z,(λy=>by rw[<-y,f]at z;cases z),d.same s,e.same s,⟨ss',s _ _ f,f'⟩,⟨as,hs,hl,ht⟩⟩
noncomputable def Zn (way:Int) (c:Nat):Nat:=if (c:Int)<way then 0 else 1
theorem Zv (way:Int) (c:Nat):Zn way c<=Zn way (c+1):=by unfold Zn;split<;>split<;>omega
theorem ZbW {way:Int}{c:Nat} (h:way=((c+1:Nat):Int)):Zn way c=0/\Zn way (c+1)=1:=by
 subst h;unfold Zn;exact⟨Yd (by omega),Ye (by omega)⟩
theorem ZmC (way:Int) (c:Nat):Zn way c<=1:=by unfold Zn;split<;>omega
theorem ZiT {ss:List Int}{i:Nat}{y:Int}:(ss.map V.int).take i++V.int y::(ss.map V.int).drop i=(ss.take i++y::ss.drop i).map V.int:=by simp
theorem ZiU {ss:List Addr}{i:Nat}{y:Addr}:(ss.map V.ref).take i++V.ref y::(ss.map V.ref).drop i=(ss.take i++y::ss.drop i).map V.ref:=by simp
theorem ZkF {α:Type} (ss:List α) (i:Nat) (y:α):(ss.take i++y::ss.drop i).length=ss.length+1:=by simp;omega
theorem Zei {α β:Type} (f:α->β):∀(l:List α) (i:Nat),(l.map f).eraseIdx i=(l.eraseIdx i).map f
 |[],_=>rfl
 |_::_,0=>rfl
 |a::l,i+1=>by simp only[YS,List.eraseIdx_cons_succ,Zei f l i]
theorem ZgA {α:Type} (l:List α) (i:Nat):(l.eraseIdx i).length<=l.length:=by rw[List.length_eraseIdx];split<;>omega
theorem ZeD:∀{l m:List Int},l.Pairwise (· < ·)->m.Pairwise (· < ·)->(∀x,x∈l↔x∈m)->l=m
 |[],[],_,_,_=>rfl
 |[],b::m,_,_,h=>absurd ((h b).mpr YH) (by simp)
 |a::l,[],_,_,h=>absurd ((h a).mp YH) (by simp)
 |a::l,b::m,h1,h2,h=>by
  obtain⟨p1,p2⟩:=Y0.mp h1
  obtain⟨q1,q2⟩:=Y0.mp h2
  have hab:a=b:=by
   rcases Yk.mp ((h a).mp YH)with e|e
   ·exact e
   ·rcases Yk.mp ((h b).mpr YH)with e'|e'
    ·exact e'.symm
    ·have:=q1 a e;have:=p1 b e';omega
  subst hab
  rw[ZeD p2 q2 λx=>⟨λhx=>?_,λhx=>?_⟩]
  ·rcases Yk.mp ((h x).mp (YM _ hx))with e|e
   ·have:=p1 x hx;omega
   ·exact e
  ·rcases Yk.mp ((h x).mpr (YM _ hx))with e|e
   ·have:=q1 x hx;omega
   ·exact e
theorem Zck (k:Nat):((List.range k).map λ(j:Nat)=>(j:Int)).Pairwise (· < ·) :=
 List.pairwise_map.mpr ((List.pairwise_lt_range).imp λh=>by omega)
theorem ZiV {l:List Int} (h:l.Pairwise (· < ·)):l.Nodup:=List.Pairwise.imp (λh e=>by omega) h
theorem Zn1 {L:List Int}{k:Nat} (nd:L.Nodup) (hl:L.length=k) (hb:∀x∈L,0<=x/\x<k) {j:Nat} (hj:j<k):(j:Int)∈L:=by
 have nd2:(L.map Int.toNat).Nodup:=List.pairwise_map.mpr ((List.Pairwise.imp_of_mem (λ{a b} ha hb' h e=>h (by have:=hb a ha;have:=hb b hb';omega)) nd))
 have:=Zhz (B:=L.map Int.toNat) (n:=k) nd2 (λq hq=>by obtain⟨x,hx,rfl⟩:=YB.mp hq;have:=hb x hx;omega)
 have h2:(List.range k).countP (λp=>decide (p∈L.map Int.toNat))=(List.range k).length:=by rw[this];simp[hl]
 have h3:=List.countP_eq_length.mp h2 j (YC.mpr hj)
 obtain⟨x,hx,e⟩:=YB.mp (YQ h3)
 have:=hb x hx
 rwa [show((j:Nat):Int)=x by omega]
theorem ZiW {k:Nat}{ss ls:List Int}:Once k ss ls↔(ss.Pairwise (· < ·)/\ls.Pairwise (· < ·)/\(ss++ls).Nodup/\(ss++ls).length=k/\∀x∈ss++ls,0<=x/\x<k):=by
 have mr:∀x:Int,x∈((List.range k).map λ(j:Nat)=>(j:Int))↔0<=x/\x<k:=λx=>by
  rw[YB]
  exact⟨λ⟨j,hj,e⟩=>by have:=YC.mp hj;omega,λ⟨h1,h2⟩=>⟨x.toNat,YC.mpr (by omega),by omega⟩⟩
 constructor
 ·rintro⟨h1,h2⟩
  have s1:ss.Pairwise (· < ·):=by rw[h1];exact(Zck k).filter _
  have s2:ls.Pairwise (· < ·):=by rw[h2];exact(Zck k).filter _
  have m1:∀x,x∈ss↔(0<=x/\x<k)/\x∉ls:=λx=>by
   have:x∈ss↔x∈((List.range k).map λ(j:Nat)=>(j:Int)).filter (λj=>decide (j∉ls)):=by rw[<-h1]
   rw[this,YL,mr];simp
  have m2:∀x,x∈ls->(0<=x/\x<k):=λx hx=>by
   rw[h2]at hx
   exact(mr x).mp (YL.mp hx).1
  have nd:(ss++ls).Nodup:=List.nodup_append.mpr ⟨ZiV s1,ZiV s2,λa ha b hb e=>((m1 a).mp ha).2 (e▸hb)⟩
  have bd:∀x∈ss++ls,0<=x/\x<k:=λx hx=>by
   rcases Yl.mp hx with hx|hx
   ·exact((m1 x).mp hx).1
   ·exact m2 x hx
  refine⟨s1,s2,nd,?_,bd⟩
  have nd2:((ss++ls).map Int.toNat).Nodup:=List.pairwise_map.mpr ((List.Pairwise.imp_of_mem (λ{a b} ha hb' h e=>h (by have:=bd a ha;have:=bd b hb';omega)) nd))
  have:=Zhz (B:=(ss++ls).map Int.toNat) (n:=k) nd2 (λq hq=>by obtain⟨x,hx,rfl⟩:=YB.mp hq;have:=bd x hx;omega)
  rw[Yc]at this
  rw[<-this]
  have h3:(List.range k).countP (λp=>decide (p∈(ss++ls).map Int.toNat))=(List.range k).length:=List.countP_eq_length.mpr λj hj=>Yo (YB.mpr ⟨(j:Int),by
   have:=YC.mp hj
   by_cases c:((j:Nat):Int)∈ls
   ·exact Yy _ c
   ·exact YF _ ((m1 _).mpr ⟨by omega,c⟩),by omega⟩)
  rw[h3,Y2]
 ·rintro⟨s1,s2,nd,hl,bd⟩
  have al:∀x:Int,0<=x->x<k->x∈ss++ls:=λx h0 h1=>by
   have:=Zn1 nd hl bd (j:=x.toNat) (by omega)
   rwa [show((x.toNat:Nat):Int)=x by omega]at this
  have dj:=(List.nodup_append.mp nd).2.2
  refine⟨ZeD s1 ((Zck k).filter _) λx=>?_,ZeD s2 ((Zck k).filter _) λx=>?_⟩
  ·rw[YL,mr]
   refine⟨λhx=>⟨bd x (YF _ hx),Yo λh=>dj x hx x h rfl⟩,λ⟨h1,h2⟩=>?_⟩
   rcases Yl.mp (al x h1.1 h1.2)with h|h
   ·exact h
   ·exact absurd h (YQ h2)
  ·rw[YL,mr]
   exact⟨λhx=>⟨bd x (Yy _ hx),Yo hx⟩,λ⟨_,h2⟩=>YQ h2⟩
theorem ZmD {K:PySem.W.Frag}{H:Hp}{n:Nat}{a b:Addr}{x1 x2 x3 x4 y1 y2 y3 y4:V} (h1:H a=some (.tup [x1,x2,x3,x4])) (h2:H b=some (.tup [y1,y2,y3,y4])) (e1:EqD K H n x1 y1 true) (e2:EqD K H n x2 y2 true) (e3:EqD K H n x3 y3 true) (e4:EqD K H n x4 y4 true):EqD K H (n+1) (.ref a) (.ref b) true:=by
 have:=EqD.tup (K:=K) (H:=H) (n:=n) (λj=>true) (SqT.of h1) (SqT.of h2) λj x y z1 z2=>by
  match j,z1,z2 with
  |0,z1,z2=>cases z1;cases z2;exact e1
  |1,z1,z2=>cases z1;cases z2;exact e2
  |2,z1,z2=>cases z1;cases z2;exact e3
  |3,z1,z2=>cases z1;cases z2;exact e4
 exact this
theorem Zfb {K:PySem.W.Frag}{H:Hp}{n:Nat}{x y:V}{c:Prop} [Decidable c] (h:EqD K H n x y (decide c)) (hc:c):EqD K H n x y true:=by rwa [Yo hc]at h
noncomputable def Zek (Hx:Hp) (p q:Addr) (n:Nat):Prop:=∃s l,Hx q=some (.tup [.ref s,.ref l])/\s≠p/\l≠p/\Nums Hx s n/\ZcT Hx l n
theorem Zek.exc {Hx Hy:Hp}{p q:Addr}{n:Nat} (h:Zek Hx p q n) (P:Zz Hx p) (e:Exc p Hx Hy):Zek Hy p q n:=by
 obtain⟨s,l,h1,h2,h3,⟨ss,f1,f2⟩,⟨as,g1,g2,g3⟩⟩:=h
 obtain⟨x,hx,_⟩:=P
 exact⟨s,l,e _ _ (λz=>by rw[z,hx]at h1;cases h1) h1,h2,h3,⟨ss,e _ _ h2 f1,f2⟩,⟨as,e _ _ h3 g1,g2,λa ha=>(g3 a ha).keep hx e⟩⟩
theorem Zek.same {Hx Hy:Hp}{p q:Addr}{n:Nat} (h:Zek Hx p q n) (e:Zf Hx Hy):Zek Hy p q n:=by
 obtain⟨s,l,h1,h2,h3,⟨ss,f1,f2⟩,⟨as,g1,g2,g3⟩⟩:=h
 exact⟨s,l,e _ _ h1,h2,h3,⟨ss,e _ _ f1,f2⟩,⟨as,e _ _ g1,g2,λa ha=>(g3 a ha).same e⟩⟩
theorem Zek.mono {Hx:Hp}{p q:Addr}{n m:Nat} (h:Zek Hx p q n) (k:n<=m):Zek Hx p q m:=by
 obtain⟨s,l,h1,h2,h3,⟨ss,f1,f2⟩,⟨as,g1,g2,g3⟩⟩:=h
 exact⟨s,l,h1,h2,h3,⟨ss,f1,by omega⟩,⟨as,g1,by omega,g3⟩⟩
section
variable {P:Program}{w:World}{K:PySem.W.Frag}{mg:Str->Option Value}{base:Heap}
theorem Zf1:FnScope ["row","fewest"] ["row","fewest"] (defScope Zad):=⟨rfl,rfl,rfl,by decide +kernel,rfl,by decide +kernel,by decide +kernel⟩
theorem Zg2:FnScope ["many","a","b"] ["many","a","b"] (defScope ZaB):=⟨rfl,rfl,rfl,by decide +kernel,rfl,by decide +kernel,by decide +kernel⟩
theorem Zll:FnScope ["row","one","other"] ["row","one","other"] (defScope ZcS):=⟨rfl,rfl,rfl,by decide +kernel,rfl,by decide +kernel,by decide +kernel⟩
theorem Zba:FnScope ["row","table","lows","size"] ["row"] (defScope ZaW):=⟨rfl,rfl,rfl,by decide +kernel,rfl,by decide +kernel,by decide +kernel⟩
theorem ZbX:FnScope ["ones","others","one","other","size","more","here","there","a"] ["ones","others","one","other","size"] (defScope ZbP):=⟨rfl,rfl,rfl,by decide +kernel,rfl,by decide +kernel,by decide +kernel⟩
theorem ZiX:FnScope ["ones","others","one","other","a","b"] ["ones","others","one","other","a","b"] (defScope Zbn):=⟨rfl,rfl,rfl,by decide +kernel,rfl,by decide +kernel,by decide +kernel⟩
theorem Zg3:FnScope ["entries"] ["entries"] (defScope ZaC):=⟨rfl,rfl,rfl,by decide +kernel,rfl,by decide +kernel,by decide +kernel⟩
theorem ZaQ:FnScope ["many","starts","others","here","there"] ["many","starts","others"] (defScope ZU):=⟨rfl,rfl,rfl,by decide +kernel,rfl,by decide +kernel,by decide +kernel⟩
theorem Zaj:FnScope ["row","text","starts","others","size","left","here","there"] ["row","text","starts","others"] (defScope Zae):=⟨rfl,rfl,rfl,by decide +kernel,rfl,by decide +kernel,by decide +kernel⟩
theorem Zag:FnScope ["cell","great","one","k","two"] ["cell"] (defScope ZaX):=⟨rfl,rfl,rfl,by decide +kernel,rfl,by decide +kernel,by decide +kernel⟩
theorem Zfc:FnScope ["pot","many","digit"] ["pot","many"] (defScope ZaY):=⟨rfl,rfl,rfl,by decide +kernel,rfl,by decide +kernel,by decide +kernel⟩
theorem ZbY:FnScope ["pot","many","order","number"] ["pot","many"] (defScope Zan):=⟨rfl,rfl,rfl,by decide +kernel,rfl,by decide +kernel,by decide +kernel⟩
theorem Z9:FnScope ["pot","most","many","kind","row","place","few","great"] ["pot","most"] (defScope Zbo):=⟨rfl,rfl,rfl,by decide +kernel,rfl,by decide +kernel,by decide +kernel⟩
theorem Zaa:FnScope ["row","elders","place","number","earlier","later","elder"] ["row"] (defScope ZaZ):=⟨rfl,rfl,rfl,by decide +kernel,rfl,by decide +kernel,by decide +kernel⟩
theorem ZbI:FnScope ["tree","place","over","here"] ["tree","place"] (defScope Za0):=⟨rfl,rfl,rfl,by decide +kernel,rfl,by decide +kernel,by decide +kernel⟩
theorem Zh4:FnScope ["tree"] ["tree"] (defScope Za1):=⟨rfl,rfl,rfl,by decide +kernel,rfl,by decide +kernel,by decide +kernel⟩
theorem Zaw:FnScope ["one","other","ones","others","number","beside"] ["one","other"] (defScope Zbp):=⟨rfl,rfl,rfl,by decide +kernel,rfl,by decide +kernel,by decide +kernel⟩
theorem Zak:FnScope ["pot","row","way","by","add","flat"] ["pot","row"] (defScope Zaf):=⟨rfl,rfl,rfl,by decide +kernel,rfl,by decide +kernel,by decide +kernel⟩
theorem Zab:FnScope ["pot","row","text","turn","way","piece","at"] ["pot","row"] (defScope Za2):=⟨rfl,rfl,rfl,by decide +kernel,rfl,by decide +kernel,by decide +kernel⟩
theorem ZfK:FnScope ["row","a","b","least"] ["row","a","b"] (defScope Zbq):=⟨rfl,rfl,rfl,by decide +kernel,rfl,by decide +kernel,by decide +kernel⟩
theorem ZJ:FnScope ["pot","row","text","starts","others","start","some","stretches","a","b"] ["pot","row","text"] (defScope ZaD):=⟨rfl,rfl,rfl,by decide +kernel,rfl,by decide +kernel,by decide +kernel⟩
theorem Zg4:FnScope ["numbers"] ["numbers"] (defScope ZaE):=⟨rfl,rfl,rfl,by decide +kernel,rfl,by decide +kernel,by decide +kernel⟩
theorem Za3:FnScope ["row","text","starts","others","begins","start","a","b"] ["row","text","starts","others"] (defScope Zbr):=⟨rfl,rfl,rfl,by decide +kernel,rfl,by decide +kernel,by decide +kernel⟩
theorem ZF:FnScope ["starts","others","way","at","spot","sizes","start","a","b"] ["starts","others","way","at","spot","sizes"] (defScope ZQ):=⟨rfl,rfl,rfl,by decide +kernel,rfl,by decide +kernel,by decide +kernel⟩
theorem Zw:FnScope ["pot","row","text","starts","others","way","at","spot","far","start","a","b"] ["pot","row","text","starts","others"] (defScope Zao):=⟨rfl,rfl,rfl,by decide +kernel,rfl,by decide +kernel,by decide +kernel⟩
theorem Zbs:FnScope ["script","cell","pot","row","text","paper","turn","spoilt","starts","others","handed","found"] ["script"] (defScope Zfa):=⟨rfl,rfl,rfl,by decide +kernel,rfl,by decide +kernel,by decide +kernel⟩
theorem Zh5 {f:Addr}{fd:FuncData} (F:Fun K "_law_deal" "_law_deal" ZaX f fd) (T:Txt K mg):FnOk P w K mg base (CXE P w) 1 f fd ["cell"] (Zc2 K mg):=by
 refine F.okX Zag (λvs H Q E h=>?_) (λcdv A outer s H vs Q E hr h=>?_)
 ·obtain⟨c,rfl,_⟩:=h;rfl
 obtain⟨cell,rfl,k1⟩:=h
 refine⟨_,(Zd (ZK (Zo ZlX (pv 0) (Zj Zcw Ze Ze) (Zr _)) (Zg (Zx (ZX (Za (Zj Zew (Zj ZZ (pv 0) (Zj Zcw Ze Ze)) (Zj Za7 (Zj Za7 (Zj Zcw Ze Ze) (Zj Zcw Ze Ze)) (Zj Zcw Ze Ze))) Zc)))) Zu)
   (Zd (Zp (i:=1) Zag.nd rfl (Or.inl rfl) Ze)
   (Zd (Zp (i:=2) Zag.nd rfl (Or.inl rfl) (Zj Zy (Zj Zew (pv 0) Ze) Ze))
   (Zd (Zat (ZaG PassesOwn.never rfl (Z4 rfl T.b_range (Za Ze Zc)) (Zm (i:=3) Zag.nd rfl (Or.inl rfl)) (Zd (Zp (i:=2) Zag.nd rfl (Or.inl rfl) (Zj Zew (Zj Zy (Zj Zy (Zj Za7 (pv 2) Ze) (Zj Za7 Ze (pv 3))) Ze) Ze))
   (Zd (Zp (i:=4) Zag.nd rfl (Or.inl rfl) (Zj Zew (Zj Za7 (pv 2) (pv 2)) Ze))
   (Zg (Zp (i:=1) Zag.nd rfl (Or.inl rfl) (Zj Zy (Zj Za7 (pv 1) Ze) (Zj Zew (Zj ZiO (pv 4) Ze) Ze))))))))
   (Zg (Zx (ZX (Za (pv 1) Zc)))))))),?_⟩
 walk_at "rd"
 have fin:∀g:Int,0<=g->∀p,H p=none->Q (V.ref p) (upd H p (.lst [V.int g])):=λg hg p hp=>k1 p _ hp ((Zf.refl H).upd hp) ⟨_,Zb,hg⟩
 refine⟨cp18,ZE (λ_=>⟨cp18,cp64,cp64,pm1,cp64,pm2,pmz3,by decide,fin _ (Int.emod_nonneg _ (Int.ne_of_gt pmz3))⟩) λ_=>⟨by decide,by decide,by decide,?_⟩⟩
 refine Zal (λi σ H'=>∃g o v3 v4,σ=[some (.int cell),some (.int g),some (.int o),v3,v4]/\0<=g/\H'=H) ⟨0,_,none,none,rfl,Int.le_refl _,rfl⟩ ?_ ?_
 ·rintro i σ H' hi ⟨g,o,v3,v4,rfl,hg,rfl⟩
  walk_at "rd"
  have b1:=Int.emod_nonneg (o*48271+7919*(0+(i:Int))+12345) (b:=2147483647) (by decide)
  have b2:=Int.emod_lt_of_pos (o*48271+7919*(0+(i:Int))+12345) (b:=2147483647) (by decide)
  refine⟨mul_r (by decide) (by decide),Zko (by decide) (by decide),by decide,Zko (by omega) (by omega),by decide,mul_r (by decide) (by decide),⟨by decide,by decide⟩,by decide,?_⟩
  have b3:=Int.emod_nonneg ((o*48271+7919*(0+(i:Int))+12345) % 2147483647*((o*48271+7919*(0+(i:Int))+12345) % 2147483647) % 2147483629 / 256) (b:=4194304) (by decide)
  have b4:=Int.mul_nonneg hg (show(0:Int)<=4194304 by decide)
  omega
 ·rintro σ H' ⟨g,o,v3,v4,rfl,hg,rfl⟩
  walk_at "rd"
  exact⟨by decide,fin g hg⟩
theorem Zh6 {f:Addr}{fd:FuncData} (F:Fun K "_law_take" "_law_take" ZaY f fd) (T:Txt K mg):FnOk P w K mg base (CXE P w) 1 f fd ["pot","many"] (ZY K mg):=by
 refine F.okX Zfc (λvs H Q E h=>?_) (λcdv A outer s H vs Q E hr h=>?_)
 ·obtain⟨p,many,rfl,_⟩:=h;rfl
 obtain⟨p,many,rfl,h0,h1,⟨x,hp,hx⟩,k1⟩:=h
 refine⟨_,(Zd (Zp (i:=2) Zfc.nd rfl (Or.inl rfl) (Zj Zew (ZD ZL (pv 0) Ze (λ_ _=>rfl)) (pv 1)))
   (Zd (Zev (Zj ZiO (ZD ZL (pv 0) Ze (λ_ _=>rfl)) (pv 1)) (Zjp (pv 0) Ze set_list (λ_=>rfl)))
   (Zg (Zx (pv 2))))),?_⟩
 walk_at "rd"
 refine⟨_,SqL.of hp,_,rfl,_,rfl,h0,?_⟩
 refine⟨_,SqL.of hp,_,rfl,_,rfl,⟨h0,by omega⟩,_,hp,_,rfl,?_⟩
 exact k1 _ _ (Int.emod_nonneg _ (by omega)) (Int.emod_lt_of_pos _ h0) ⟨_,Zb,Int.ediv_nonneg hx (by omega)⟩ Exc.upd
theorem ZgB {f:Addr}{fd:FuncData} (F:Fun K "_law_unlike" "_law_unlike" Zan f fd) (Zi:Callee P w K mg base "_law_take" 1 ["pot","many"] (ZY K mg)) (T:Txt K mg):FnOk P w K mg base (CXE P w) 2 f fd ["pot","many"] (ZbU K mg):=by
 refine F.okX ZbY (λvs H Q E h=>?_) (λcdv A outer s H vs Q E hr h=>?_)
 ·obtain⟨p,many,rfl,_⟩:=h;rfl
 obtain⟨p,many,rfl,h0,h1,hP,k1⟩:=h
 refine⟨_,(Zd (Zp (i:=2) ZbY.nd rfl (Or.inl rfl) (ZX Zc))
   (Zd (Zat (ZaG PassesOwn.never rfl (Z4 rfl T.b_range (Za (pv 1) Zc)) (Zm (i:=3) ZbY.nd rfl (Or.inl rfl)) (Zg (Z6 (Zbl PySem.F.plainAttrs_list PySem.F.slot_list_insert PySem.F.type_list_insert Zfs (pv 2) (Za (Zk Zi (hr.mono (by decide)) rfl ZA (Za (pv 0) (Za (Zj Zy (pv 3) Ze) Zc))) (Za (pv 3) Zc)))))))
   (Zg (Zx (pv 2))))),?_⟩
 walk_at "rd"
 refine⟨Yr _,λq hq=>⟨by omega,by omega,?_⟩⟩
 have hqp:q≠p:=hP.ne hq
 refine Zal (λi σ H'=>∃(ns:List Int) (v3:Option V),σ=[some (.ref p),some (.int many),some (.ref q),v3]/\ns.length=i/\H' q=some (.lst (ns.map V.int))/\Zz H' p/\Exc p H H') ⟨[],none,rfl,rfl,Zb,hP.upd hq,(Zf.refl H).Zho.ZcP hq⟩ ?_ ?_
 ·rintro i σ H' hi ⟨ns,v3,rfl,hlen,hq',P',e'⟩
  walk_at "rd"
  refine⟨ZI hq',p,_,rfl,by omega,by omega,P',λd H2 d0 d1 P2 e2=>⟨_,d,rfl,e2 _ _ hqp hq',d0,by omega,Yp (show _<=1000 by rw[Yc];omega) (by decide),ns.take d.toNat++(0+(i:Int))::ns.drop d.toNat,?_,?_,P2.ZcP hqp,(e'.trans e2).ZcP hq⟩⟩
  ·simp;omega
  ·rw[Zb];simp
 ·rintro σ H' ⟨ns,v3,rfl,hlen,hq',P',e'⟩
  walk_at "rd"
  exact k1 q ns H' hq (by omega) hq' P' e'
theorem ZiY {f:Addr}{fd:FuncData} (F:Fun K "_law_row" "_law_row" Zbo f fd) (Zi:Callee P w K mg base "_law_take" 1 ["pot","many"] (ZY K mg)) (ZcD:Callee P w K mg base "_law_unlike" 2 ["pot","many"] (ZbU K mg)) (T:Txt K mg):FnOk P w K mg base (CXE P w) 3 f fd ["pot","most"] (ZdF K mg):=by
 refine F.okX Z9 (λvs H Q E h=>?_) (λcdv A outer s H vs Q E hr h=>?_)
 ·obtain⟨p,most,rfl,_⟩:=h;rfl
 obtain⟨p,most,rfl,h0,h1,hP,k1⟩:=h
 refine⟨_,(Zd (Zp (i:=2) Z9.nd rfl (Or.inl rfl) (Zk Zi (hr.mono (by decide)) rfl ZA (Za (pv 0) (Za (Zj Zy (pv 1) Ze) Zc))))
   (Zd (ZK (Zo ZaV (Zk Zi (hr.mono (by decide)) rfl ZA (Za (pv 0) (Za Ze Zc))) Ze (Zr _)) (Zg (Zp (i:=2) Z9.nd rfl (Or.inl rfl) (pv 1))) Zu)
   (Zd (Zp (i:=3) Z9.nd rfl (Or.inl rfl) (Zk Zi (hr.mono (by decide)) rfl ZA (Za (pv 0) (Za Ze Zc))))
   (Zd (ZK (Zo ZaV (pv 3) Ze (Zr _)) (Zg (Zx (Zk ZcD (hr.mono (by decide)) rfl ZA (Za (pv 0) (Za (pv 2) Zc))))) Zu)
   (Zd (Zp (i:=4) Z9.nd rfl (Or.inl rfl) (ZX Zc))
   (Zd (Zat (ZaG PassesOwn.never rfl (Z4 rfl T.b_range (Za (pv 2) Zc)) (Zm (i:=5) Z9.nd rfl (Or.inl rfl)) (Zd (Zp (i:=6) Z9.nd rfl (Or.inl rfl) (Zk Zi (hr.mono (by decide)) rfl ZA (Za (pv 0) (Za (ZD Z3 (Z0 (Za Ze (Za Ze Zc))) (ZP Zk4 rfl T.b_int bt_int (Za (ZcW Zis (pv 3) Ze (Zr _)) Zc)) (λ_ _=>rfl)) Zc))))
   (Zd (Zp (i:=7) Z9.nd rfl (Or.inl rfl) Ze)
   (Zd (ZK (Zo ZaV (pv 3) Ze (Zr _)) (Zg (Zp (i:=7) Z9.nd rfl (Or.inl rfl) (Zj Za7 (Zj ZZ (Zk Zi (hr.mono (by decide)) rfl ZA (Za (pv 0) (Za (Zj Zy (Zj Za7 Ze (Zj Zcw Ze Ze)) Ze) Zc))) (Zj Zcw Ze Ze)) (Zj Zcw Ze Ze)))) Zu)
   (Zg (Z6 (Zbl PySem.F.plainAttrs_list PySem.F.slot_list_append PySem.F.type_list_append Zaz (pv 4) (Za (ZD Z3 (Z0 (Za (pv 6) (Za (Zj Zy (pv 5) (pv 6)) (Za (Zj Zy (Zj ZZ (pv 2) (pv 5)) (pv 6)) (Za (Zj Zy (Zj Za7 (Zj Zew (pv 5) Ze) Ze) (pv 6)) (Za (pv 7) Zc)))))) (pv 3) (λ_ _=>rfl)) Zc)))))))))
   (Zg (Zx (pv 4))))))))),?_⟩
 refine ZM (fun σ Hx=>∃m:Int,σ=[some (.ref p),some (.int most),some (.int m),none,none,none,none,none]/\0<=m/\m<=most/\Zz Hx p/\Exc p H Hx) (λR hR=>?_) ?_
 ·walk_at "rd"
  exact⟨p,_,rfl,by omega,by omega,hP,λd H1 d0 d1 P1 e1=>hR _ _ ⟨d,rfl,d0,by omega,P1,e1⟩⟩
 rintro σ H1 ⟨m1,rfl,m10,m11,P1,e1⟩
 refine ZM (fun σ Hx=>∃m:Int,σ=[some (.ref p),some (.int most),some (.int m),none,none,none,none,none]/\0<=m/\m<=most/\Zz Hx p/\Exc p H Hx) (λR hR=>?_) ?_
 ·walk_at "rd"
  refine⟨p,_,rfl,by decide,by decide,P1,λd H2 d0 d1 P2 e2=>⟨rfl,ZE (λ_=>hR _ _ ⟨most,rfl,h0,Int.le_refl _,P2,e1.trans e2⟩) λ_=>hR _ _ ⟨m1,rfl,m10,m11,P2,e1.trans e2⟩⟩⟩
 clear P1 e1 m10 m11 m1 H1
 rintro σ H1 ⟨many,rfl,m0,m1,P1,e1⟩
 refine ZM (fun σ Hx=>∃k:Int,σ=[some (.ref p),some (.int most),some (.int many),some (.int k),none,none,none,none]/\0<=k/\k<6/\Zz Hx p/\Exc p H Hx) (λR hR=>?_) ?_
 ·walk_at "rd"
  exact⟨p,_,rfl,by decide,by decide,P1,λd H2 d0 d1 P2 e2=>hR _ _ ⟨d,rfl,d0,d1,P2,e1.trans e2⟩⟩
 clear P1 e1 H1
 rintro σ H1 ⟨kd,rfl,d0,d1,P1,e1⟩
 refine ZM (fun σ Hx=>σ=[some (.ref p),some (.int most),some (.int many),some (.int kd),none,none,none,none]/\kd<5/\Hx=H1) (λR hR=>?_) ?_
 ·walk_at "rd"
  refine ZE (λ_=>⟨p,_,rfl,m0,by omega,P1,λr ns H2 hr2 hl h2 P2 e2=>k1 r ns _ (e1.free (P1.ne hr2) hr2) (by omega) h2 P2 (e1.trans e2)⟩) λz=>hR _ _ ⟨rfl,by omega,rfl⟩
 rintro σ H2 ⟨rfl,d2,rfl⟩
 walk_at "rd"
 refine⟨Yr _,λq hq=>⟨by omega,by omega,?_⟩⟩
 have hqp:q≠p:=P1.ne hq
 have hqH:H q=none:=e1.free hqp hq
 refine Zal (λi σ H'=>∃(ns:List Int) (v5 v6 v7:Option V),σ=[some (.ref p),some (.int most),some (.int many),some (.int kd),some (.ref q),v5,v6,v7]/\ns.length=i/\H' q=some (.lst (ns.map V.int))/\Zz H' p/\Exc p H H') ⟨[],none,none,none,rfl,rfl,Zb,P1.upd hq,e1.same ((Zf.refl H2).upd hq)⟩ ?_ ?_
 ·rintro i σ H' hi ⟨ns,v5,v6,v7,rfl,hlen,hq',P',e'⟩
  refine ZM (fun σ Hx=>∃f:Int,σ=[some (.ref p),some (.int most),some (.int many),some (.int kd),some (.ref q),some (.int (0+(i:Int))),some (.int f),v7]/\Hx q=some (.lst (ns.map V.int))/\Zz Hx p/\Exc p H Hx) (λR hR=>?_) ?_
  ·walk_at "rd"
   refine⟨by decide,λu hu=>?_⟩
   obtain⟨v,hv,y,rfl,y0,y1⟩:=Ze2 (xs:=[V.int 4,V.int 2]) (i:=if 0<kd then 1 else 0) (λv=>∃y:Int,v=V.int y/\0<y/\y<=4) (by split<;>decide) (by split<;>decide) (by
    intro x hx
    simp at hx
    rcases hx with rfl|rfl<;>exact⟨_,rfl,by decide,by decide⟩)
   have g:=(Zf.refl H').upd (o:=.tup [V.int 4,V.int 2]) hu
   exact⟨_,SqT.of Zb,_,hv,p,y,rfl,y0,by omega,P'.same g,λd H2 d0 d1 P2 e2=>hR _ _ ⟨d,rfl,e2 _ _ hqp (g _ _ hq'),P2,(e'.same g).trans e2⟩⟩
  clear hq' P' e' H'
  rintro σ H' ⟨f,rfl,hq',P',e'⟩
  refine ZM (fun σ Hx=>∃g:Int,σ=[some (.ref p),some (.int most),some (.int many),some (.int kd),some (.ref q),some (.int (0+(i:Int))),some (.int f),some (.int g)]/\Hx q=some (.lst (ns.map V.int))/\Zz Hx p/\Exc p H Hx) (λR hR=>?_) ?_
  ·walk_at "rd"
   exact hR _ _ ⟨0,rfl,hq',P',e'⟩
  clear hq' P' e' H'
  rintro σ H' ⟨g0,rfl,hq',P',e'⟩
  refine ZM (fun σ Hx=>∃g:Int,σ=[some (.ref p),some (.int most),some (.int many),some (.int kd),some (.ref q),some (.int (0+(i:Int))),some (.int f),some (.int g)]/\Hx q=some (.lst (ns.map V.int))/\Zz Hx p/\Exc p H Hx) (λR hR=>?_) ?_
  ·walk_at "rd"
   have e9:(10:Int) ^ Int.toNat 9=1000000000:=by decide
   rw[e9]
   exact ZE (λ_=>⟨cp9,Zko (by decide) (by decide),p,_,rfl,by decide,by decide,P',λd H2 d0 d1 P2 e2=>⟨cp9,d,rfl,cp50,Zko (by omega) (by omega),hR _ _ ⟨_,rfl,e2 _ _ hqp hq',P2,e'.trans e2⟩⟩⟩) λ_=>hR _ _ ⟨g0,rfl,hq',P',e'⟩
  clear hq' P' e' H'
  rintro σ H' ⟨g1,rfl,hq',P',e'⟩
  walk_at "rd"
  refine⟨ZI hq',by decide,mul_r (by decide) (by decide),by decide,λu hu=>?_⟩
  obtain⟨v,hv,y,rfl⟩:=Ze2 (xs:=[V.int f,V.int (0+(i:Int)+f),V.int (many-(0+(i:Int))+f),V.int ((0+(i:Int)) % 4*2+f),V.int g1]) (i:=kd) (λv=>∃y:Int,v=V.int y) d0 d2 (by
   intro x hx
   simp only[Yk,List.not_mem_nil,or_false]at hx
   rcases hx with rfl|rfl|rfl|rfl|rfl<;>exact⟨_,rfl⟩)
  have g:=(Zf.refl H').upd (o:=.tup [V.int f,V.int (0+(i:Int)+f),V.int (many-(0+(i:Int))+f),V.int ((0+(i:Int)) % 4*2+f),V.int g1]) hu
  refine⟨_,SqT.of Zb,_,hv,_,g _ _ hq',Yp (show _<=1000 by rw[Yc];omega) (by decide),ns++[y],by simp[hlen],by rw[Zb];simp,(P'.same g).ZcP hqp,(e'.same g).ZcP hqH⟩
 ·rintro σ H' ⟨ns,v5,v6,v7,rfl,hlen,hq',P',e'⟩
  walk_at "rd"
  exact k1 q ns H' hqH (by omega) hq' P' e'
theorem Zh7 {f:Addr}{fd:FuncData} (F:Fun K "_law_tree" "_law_tree" ZaZ f fd) (T:Txt K mg):FnOk P w K mg base (CXE P w) 1 f fd ["row"] (Zc3 K mg):=by
 refine F.okX Zaa (λvs H Q E h=>?_) (λcdv A outer s H vs Q E hr h=>?_)
 ·obtain⟨r,ns,rfl,_⟩:=h;rfl
 obtain⟨r,ns,rfl,hr0,hn,k1⟩:=h
 refine⟨_,(Zd (Zp (i:=1) Zaa.nd rfl (Or.inl rfl) (ZX Zc))
   (Zd (Zat (ZaG PassesOwn.never rfl (ZhY (K:=K) rfl rfl T.b_enumerate (Za (pv 0) Zc)) (ZcU (n:=2) rfl (Zt (Zm (i:=2) Zaa.nd rfl (Or.inl rfl)) (Zt (Zm (i:=3) Zaa.nd rfl (Or.inr rfl)) Zap))) (Zd (Za9 (i:=4) ["other","number","row"] [none,some 3,some 0] Zaa.nd rfl (Or.inl rfl) rfl rfl rfl (Z4 rfl T.b_range (Za (pv 2) Zc)) (λ_ _ _ _ _=>(Zm (i:=0) (show(["other","number","row"]:List Str).Nodup from by decide +kernel) rfl (Or.inl rfl))) (λ_ _ _ _ _=>ZbR (Zo Zdz (ZD (r:=rIxL K) ZL (pv 2) (pv 0) (λ_ _=>rfl)) (pv 1) (Zr _))) (λ_ _ _ _ _=>(pv 0)) Zs)
   (Zd (Za9 (i:=5) ["other","number","row"] [none,some 3,some 0] Zaa.nd rfl (Or.inl rfl) rfl rfl rfl (Zee rfl T.b_range (Za (Zj Zy (pv 2) Ze) (Za (Zh (Zl (K:=K) rfl) rfl T.b_len Yg (Za (pv 0) Zc)) Zc))) (λ_ _ _ _ _=>(Zm (i:=0) (show(["other","number","row"]:List Str).Nodup from by decide +kernel) rfl (Or.inl rfl))) (λ_ _ _ _ _=>ZbR (Zo Zcd (ZD (r:=rIxL K) ZL (pv 2) (pv 0) (λ_ _=>rfl)) (pv 1) (Zr _))) (λ_ _ _ _ _=>(pv 0)) Zs)
   (Zd (Zp (i:=6) Zaa.nd rfl (Or.inl rfl) (ZD ZL (Zj Za5 (ZX (Za (Zj9 ZhG Ze) Zc)) (pv 4)) (Zj9 ZhG Ze) (λ_ _=>rfl)))
   (Zd (ZK (PW.pt (Zdv (Zo (Zjw (K:=K) rfl hr) (pv 5) (ZX Zc) (Zr _)) (Zcc (PW.pt (Zgc (Zo (ZhT (K:=K) rfl hr) (pv 4) (ZX Zc) (Zr _)) (Zfo (Zo ZlX (ZD ZL (pv 0) (ZD ZL (pv 5) Ze (λ_ _=>rfl)) (λ_ _=>rfl)) (ZD ZL (pv 0) (pv 6) (λ_ _=>rfl)) (Zr _)))))))) (Zg (Zp (i:=6) Zaa.nd rfl (Or.inl rfl) (ZD ZL (pv 5) Ze (λ_ _=>rfl)))) Zu)
   (Zg (Z6 (Zbl PySem.F.plainAttrs_list PySem.F.slot_list_append PySem.F.type_list_append Zaz (pv 1) (Za (pv 6) Zc))))))))))
   (Zg (Zx (ZP (ZcO (K:=K) rfl) rfl T.b_tuple ZcN (Za (pv 1) Zc)))))),?_⟩
 walk_at "rd"
 have eL:(ns.map V.int).length=ns.length:=Yc ..
 refine⟨Yr _,λl hl=>⟨_,SqL.of (((Zf.refl H).upd hl) _ _ hr0),?_⟩⟩
 refine Zmq (n:=ns.length) (λi σ Hx=>∃(L:List Int) (v2 v3 v4 v5 v6:Option V),σ=[some (.ref r),some (.ref l),v2,v3,v4,v5,v6]/\L.length=i/\Zf H Hx/\Hx l=some (.lst (L.map V.int))/\∀p,p<i->ZN (nth ns) ns.length p (L.getD p 0)) ⟨[],none,none,none,none,none,rfl,rfl,(Zf.refl H).upd hl,Zb,λp hp=>absurd hp (by omega)⟩ (λi σ Hx hi ⟨_,_,_,_,_,_,_,_,sx,_⟩=>⟨_,_,SqL.of (sx _ _ hr0),Yb (by simpa using hi)⟩) (fun σ Hx ⟨_,_,_,_,_,_,_,_,sx,_⟩=>⟨_,SqL.of (sx _ _ hr0),by simp⟩) ?_ ?_
 ·rintro i x σ Hx Hx' hi ⟨L,v2,v3,v4,v5,v6,rfl,hL,sx,hxl,hF⟩ ⟨q,x,hq,rfl,rfl,hx⟩
  have ex:=hx _ (SqL.of (sx _ _ hr0))
  rw[Yt,Yb hi]at ex
  cases ex
  have eg:ns[i]=nth ns i:=by simp[nth,Yj,hi]
  rw[eg]
  have g:=(Zf.refl Hx).upd (o:=.tup [.int (i:Int),.int (nth ns i)]) hq
  have tq:(upd Hx q (.tup [.int (i:Int),.int (nth ns i)])) q=some (.tup [.int (i:Int),.int (nth ns i)]):=Zb
  replace sx:=sx.trans g
  replace hxl:=g _ _ hxl
  generalize upd Hx q (.tup [.int (i:Int),.int (nth ns i)])=Hy at sx hxl tq⊢
  clear g hx hq Hx
  have EE:=ZiD (f:=nth ns) hi
  generalize hA:((List.range i).filter λq=>decide (nth ns q<=nth ns i))=A at EE
  generalize hB:((List.range (ns.length-(i+1))).filter λj=>decide (nth ns (i+1+j)<nth ns i))=B at EE
  have hqa:∀q∈A,q<ns.length:=λq hq=>by
   rw[<-hA]at hq
   have:=YC.mp (YL.mp hq).1;omega
  have hqb:∀j∈B,i+1+j<ns.length:=λj hq=>by
   rw[<-hB]at hq
   have:=YC.mp (YL.mp hq).1;omega
  have lA:A.length<=1000:=by rw[<-hA];exact Yh (Y3 _ _) (by simp;omega)
  have lB:B.length<=1000:=by rw[<-hB];exact Yh (Y3 _ _) (by simp;omega)
  refine⟨q,_,rfl,SqT.of tq,rfl,_,_,rfl,_,_,rfl,rfl,?_⟩
  clear tq
  refine ZM (fun σ Hz=>∃a,σ=[some (.ref r),some (.ref l),some (.int (i:Int)),some (.int (nth ns i)),some (.ref a),v5,v6]/\Zf H Hz/\Hz l=some (.lst (L.map V.int))/\Hz a=some (.lst (ZaF A))) (λR hR=>?_) ?_
  ·walk_at "rd"
   refine⟨by omega,by omega,?_⟩
   have e1:((i:Int)).toNat=i:=by omega
   rw[e1]
   refine ZcQ (n:=i) (λq=>decide (nth ns q<=nth ns i)) (λq=>V.int ((q:Nat):Int)) (Yp (show _<=1000 by omega) (by decide)) (λj Hx s hj=>hj) (λHx s=>Ya _) ?_ ?_
   ·rintro j x Hx Hz hj s ⟨rfl,rfl⟩
    have e0:((0:Int)+(j:Int))=(j:Int):=by omega
    rw[e0]
    walk_at "rd"
    exact⟨_,SqL.of ((sx.trans s) _ _ hr0),_,Zby (by omega),_,rfl,ZE (λh=>CF.take hj (Yo h) rfl s) (λh=>CF.skip hj (Yu h) s)⟩
   ·intro l1 H1 s1 hl1
    exact hR _ _ ⟨l1,rfl,(sx.trans s1).ZS hl1,(s1.ZS hl1) _ _ hxl,by rw[Zb,hA];rfl⟩
  clear sx hxl Hy
  rintro σ Hx ⟨a,rfl,sx,hxl,hxa⟩
  refine ZM (fun σ Hy=>∃b,σ=[some (.ref r),some (.ref l),some (.int (i:Int)),some (.int (nth ns i)),some (.ref a),some (.ref b),v6]/\Zf H Hy/\Hy l=some (.lst (L.map V.int))/\Hy a=some (.lst (ZaF A))/\Hy b=some (.lst (ZaF (B.map λj=>i+1+j)))) (λR hR=>?_) ?_
  ·walk_at "rd"
   refine⟨_,.inl (SqL.of (sx _ _ hr0)),by omega,by omega,by omega,by rw[eL];omega,?_⟩
   have e1:((((ns.map V.int).length:Nat):Int)-((i:Int)+1)).toNat=ns.length-(i+1):=by rw[eL];omega
   rw[e1]
   refine ZcQ (n:=ns.length-(i+1)) (λq=>decide (nth ns (i+1+q)<nth ns i)) (λq=>V.int ((i+1+q:Nat):Int)) (Yp (show _<=1000 by omega) (by decide)) (λj Hx s hj=>hj) (λHx s=>Ya _) ?_ ?_
   ·rintro j x Hy Hz hj s ⟨rfl,rfl⟩
    have e0:((i:Int)+1+(j:Int))=((i+1+j:Nat):Int):=by omega
    rw[e0]
    walk_at "rd"
    exact⟨_,SqL.of ((sx.trans s) _ _ hr0),_,Zby (by omega),_,rfl,ZE (λh=>CF.take hj (Yo h) rfl s) (λh=>CF.skip hj (Yu h) s)⟩
   ·intro l1 H1 s1 hl1
    exact hR _ _ ⟨l1,rfl,(sx.trans s1).ZS hl1,(s1.ZS hl1) _ _ hxl,(s1.ZS hl1) _ _ hxa,by rw[Zb,hB];simp[ZaF,Function.comp_def]⟩
  clear sx hxl hxa Hx
  rintro σ Hx ⟨b,rfl,sx,hxl,hxa,hxb⟩
  have lA':([V.int (-1)]++ZaF A).length<=1001:=by rw[YJ,Zfu];simp;omega
  refine ZM (fun σ Hy=>σ=[some (.ref r),some (.ref l),some (.int (i:Int)),some (.int (nth ns i)),some (.ref a),some (.ref b),some (.int (match A.getLast? with|some q=>((q:Nat):Int)|none=>-1))]/\Zf H Hy/\Hy l=some (.lst (L.map V.int))/\Hy a=some (.lst (ZaF A))/\Hy b=some (.lst (ZaF (B.map λj=>i+1+j)))) (λR hR=>?_) ?_
  ·walk_at "rd"
   refine⟨by decide,λc1 h1=>?_⟩
   have u1:=(Zf.refl Hx).upd (o:=.lst [V.int (-1)]) h1
   refine⟨_,Zb,_,u1 _ _ hxa,Yh (show _<=1001 by rw[<-YJ];exact lA') (by decide),λc2 h2=>?_⟩
   have u2:=u1.ZS (o:=.lst ([V.int (-1)]++ZaF A)) h2
   refine⟨_,SqL.of Zb,V.int (match A.getLast? with|some q=>((q:Nat):Int)|none=>-1),?_,hR _ _ ⟨rfl,sx.trans u2,u2 _ _ hxl,u2 _ _ hxa,u2 _ _ hxb⟩⟩
   have e:[V.int (-1)]++ZaF A=([-1]++A.map λ(q:Nat)=>(q:Int)).map V.int:=by simp[ZaF,Function.comp_def]
   rw[e]
   refine ZnQ ?_
   rcases snoc_cases A with rfl|⟨ys,y,rfl⟩
   ·rfl
   ·rw[YG,<-Y1,List.map_singleton,List.getLast?_concat];simp
  clear sx hxl hxa hxb Hx
  rintro σ Hx ⟨rfl,sx,hxl,hxa,hxb⟩
  refine ZM (fun σ Hy=>∃e,σ=[some (.ref r),some (.ref l),some (.int (i:Int)),some (.int (nth ns i)),some (.ref a),some (.ref b),some (.int e)]/\Zf H Hy/\Hy l=some (.lst (L.map V.int))/\ZN (nth ns) ns.length i e) (λR hR=>?_) ?_
  ·refine ifR (λH1=>Zf Hx H1/\∃j B',B=j::B'/\∀q,A.getLast?=some q->nth ns q<=nth ns (i+1+j)) (λH1=>Zf Hx H1/\(B=[]\/∃j B' q,B=j::B'/\A.getLast?=some q/\nth ns (i+1+j)<nth ns q)) ?_ ?_ ?_
   ·rintro H1 ⟨s1,j,B',rfl,hle⟩
    walk_at "rd"
    refine⟨_,SqL.of (s1 _ _ hxb),V.int ((i+1+j:Nat):Int),ZiE (j:=0) rfl,hR _ _ ⟨((i+1+j:Nat):Int),rfl,sx.trans s1,s1 _ _ hxl,?_⟩⟩
    cases hl:A.getLast? with
    |none=>rw[hl]at EE;simpa using EE
    |some q =>
     rw[hl]at EE
     simp only[List.head?_cons,Yd (hle q hl)]at EE
     simpa using EE
   ·rintro H1 ⟨s1,hc⟩
    walk_at "rd"
    refine hR _ _ ⟨_,rfl,sx.trans s1,s1 _ _ hxl,?_⟩
    rcases hc with rfl|⟨j,B',q,rfl,hl,hlt⟩
    ·cases hl:A.getLast? with
     |none=>rw[hl]at EE;simpa using EE
     |some q=>rw[hl]at EE;simpa using EE
    ·rw[hl]at EE⊢
     simp only[List.head?_cons,Ye (show ¬ nth ns q<=nth ns (i+1+j) by omega)]at EE
     simpa using EE
   ·intro B0 hT hU
    walk_at "rd"
    refine⟨Yr _,λc hc=>?_⟩
    have u1:=(Zf.refl Hx).upd (o:=.lst []) hc
    refine⟨_,Zkx (u1 _ _ hxb) Zb,?_⟩
    cases B with
    |nil=>simpa using hU _ ⟨u1,.inl rfl⟩
    |cons j B' =>
     refine ZE (λ_=>⟨Yr _,λd hd=>?_⟩) λz=>absurd z (by simp)
     have u2:=u1.ZS (o:=.lst []) hd
     refine⟨_,Zkx (u2 _ _ hxa) Zb,?_⟩
     rcases snoc_cases A with rfl|⟨ys,y,rfl⟩
     ·exact ZE (λ_=>hT _ ⟨u2,j,B',rfl,λq e=>nomatch e⟩) λz=>absurd z (by simp)
     ·refine ZE (λz=>absurd z (by simp)) λ_=>?_
      have hy:y<ns.length:=hqa y (by simp)
      have hj:i+1+j<ns.length:=hqb j (by simp)
      have ey:(ys++[y]).getLast?=some y:=by simp
      refine⟨_,SqL.of (u2 _ _ hxb),V.int ((i+1+j:Nat):Int),ZiE (j:=0) rfl,_,_,rfl,SqL.of ((sx.trans u2) _ _ hr0),_,Zby hj,_,SqL.of ((sx.trans u2) _ _ hr0),V.int (nth ns y),by rw[ey];exact Zby hy,_,rfl,_,rfl,?_⟩
      by_cases h:nth ns y<=nth ns (i+1+j)
      ·rw[Yo h];exact hT _ ⟨u2,j,B',rfl,λq e=>by rw[ey]at e;cases e;exact h⟩
      ·rw[Yu h];exact hU _ ⟨u2,.inr ⟨j,B',y,rfl,ey,by omega⟩⟩
  clear sx hxl hxa hxb Hx
  rintro σ Hx ⟨ee,rfl,sx,hxl,hE⟩
  walk_at "rd"
  refine⟨ZI hxl,_,hxl,Yp (show _<=1000 by rw[Yc];omega) (by decide),L++[ee],by simp[hL],sx.upd hl,by rw[Zb];simp,λp hp=>?_⟩
  by_cases e:p=i
  ·subst e
   have:(L++[ee]).getD p 0=ee:=by rw[<-hL];simp[Yj]
   rw[this];exact hE
  ·have:(L++[ee]).getD p 0=L.getD p 0:=by
    simp only[Yj]
    rw[Y4 (by omega)]
   rw[this];exact hF p (by omega)
 ·rintro σ Hx ⟨L,v2,v3,v4,v5,v6,rfl,hL,sx,hxl,hF⟩
  walk_at "rd"
  exact⟨_,.inl ⟨SqL.of hxl,λu hu=>k1 u L _ ⟨hL,hF⟩ (sx.ZS hu) Zb⟩⟩
theorem Zh8 {f:Addr}{fd:FuncData} (F:Fun K "_law_over" "_law_over" Za0 f fd) (T:Txt K mg):FnOk P w K mg base (CXE P w) 1 f fd ["tree","place"] (Zc4 K mg):=by
 refine F.okX ZbI (λvs H Q E h=>?_) (λcdv A outer s H vs Q E hr h=>?_)
 ·obtain⟨t,T,p,rfl,_⟩:=h;rfl
 obtain⟨t,T',p,rfl,ht,hn,hp,hen,k1⟩:=h
 refine⟨_,(Zd (Zp (i:=2) ZbI.nd rfl (Or.inl rfl) (ZX Zc))
   (Zd (Zp (i:=3) ZbI.nd rfl (Or.inl rfl) (ZD Z3 (pv 0) (pv 1) (λ_ _=>rfl)))
   (Zd (Zat (ZlT PassesOwn.never (Zo ZlX (pv 3) Ze (Zr _)) (Zd (Z6 (Zbl PySem.F.plainAttrs_list PySem.F.slot_list_append PySem.F.type_list_append Zaz (pv 2) (Za (pv 3) Zc)))
   (Zg (Zp (i:=3) ZbI.nd rfl (Or.inl rfl) (ZD Z3 (pv 0) (pv 3) (λ_ _=>rfl)))))))
   (Zg (Zx (pv 2)))))),?_⟩
 walk_at "rd"
 have eL:(T'.map V.int).length=T'.length:=Yc ..
 refine⟨Yr _,λl hl=>⟨_,SqT.of (((Zf.refl H).upd hl) _ _ ht),_,Zby hp,?_⟩⟩
 have nlt:t≠l:=ZV ht hl
 refine ZnU (λm σ Hx=>∃(h:Int) (L:List Nat),m+L.length=T'.length/\ZbB T' m h/\L++Zca T' m h=way T' p/\Zf H Hx/\Hx l=some (.lst (ZaF L))/\σ=[some (.ref t),some (.int p),some (.ref l),some (.int h)]) T'.length ⟨nth T' p,[],by simp,hen,rfl,(Zf.refl H).upd hl,Zb,rfl⟩ ?_
 rintro m σ Hx ⟨h,L,hm,he,hw,sx,hxl,rfl⟩
 walk_at "rd"
 refine ZE (λz=>?_) λz=>?_
 ·cases m with
  |zero=>exact absurd (show h=-1 from he) (by omega)
  |succ m =>
   rcases he with he|⟨he1,he2,he3⟩
   ·omega
   ·obtain⟨j,rfl⟩:=YO he1
    have ej:((j:Int)).toNat=j:=by omega
    rw[ej]at he3
    simp only[Zca,Yd (And.intro he1 he2),ej]at hw
    refine⟨_,fun σ' H' z=>z,ZI hxl,_,hxl,Yp (show _<=1000 by rw[Zfu];omega) (by decide),_,SqT.of (by rw[Zq nlt];exact sx _ _ ht),_,Zby (by omega),m,by omega,nth T' j,L++[j],by simp;omega,he3,by rw[<-hw];simp,sx.upd hl,?_,rfl⟩
    rw[Zb,Zk6];rfl
 ·refine k1 l Hx hl sx ?_
  have:Zca T' m h=[]:=by
   cases m with
   |zero=>rfl
   |succ m=>simp only[Zca];rw[Ye (by omega)]
  rw[this,List.append_nil]at hw
  rw[hxl,ZiK,hw];simp[ZaF]
theorem Zh9 {f:Addr}{fd:FuncData} (F:Fun K "_law_flat" "_law_flat" Za1 f fd) (ZdJ:Callee P w K mg base "_law_over" 1 ["tree","place"] (Zc4 K mg)) (T:Txt K mg):FnOk P w K mg base (CXE P w) 2 f fd ["tree"] (Zc5 K mg):=by
 refine F.okX Zh4 (λvs H Q E h=>?_) (λcdv A outer s H vs Q E hr h=>?_)
 ·obtain⟨t,T,rfl,_⟩:=h;rfl
 obtain⟨t,T',rfl,ht,hn,hen,k1⟩:=h
 refine⟨_,(Zg (Zx (Zai ["place","tree"] [none,some 0] rfl rfl rfl (Z4 rfl T.b_range (Za (Zh (Zl (K:=K) rfl) rfl T.b_len Yg (Za (pv 0) Zc)) Zc)) (λ_ _ _ _ _=>(Zm (i:=0) (show(["place","tree"]:List Str).Nodup from by decide +kernel) rfl (Or.inr rfl))) (λ_ _ _ _ _=>Z7) (λ_ _ _ _ _=>(Zh (Zl (K:=K) rfl) rfl T.b_len Yg (Za (Zai ["other","place"] [none,some 0] rfl rfl rfl (Zml (K:=K) rfl (Zk ZdJ (hr.mono (by decide)) rfl ZA (Za (pv 1) (Za (pv 0) Zc)))) (λ_ _ _ _ _=>(Zm (i:=0) (show(["other","place"]:List Str).Nodup from by decide +kernel) rfl (Or.inl rfl))) (λ_ _ _ _ _=>ZbR (Zo Zis (pv 0) (pv 1) (Zr _))) (λ_ _ _ _ _=>(pv 0)) Zs) Zc))) Zs))),?_⟩
 walk_at "rd"
 have eL:(T'.map V.int).length=T'.length:=Yc ..
 have en:(((T'.map V.int).length:Nat):Int).toNat=T'.length:=by rw[eL];omega
 refine⟨_,.inr (SqT.of ht),by omega,by rw[eL];omega,?_⟩
 rw[en]
 refine comp_map (n:=T'.length) (λq=>V.int (Zbx T' q:Nat)) (Yp hn (by decide)) (λj Hx s hj=>hj) (λHx s=>Ya _) ?_ ?_
 ·rintro j x Hx Hy hj s ⟨rfl,rfl⟩
  have ej:((0:Int)+(j:Int))=(j:Int):=by omega
  rw[ej]
  walk_at "rd"
  refine⟨t,T',j,rfl,s _ _ ht,hn,hj,hen j hj,λw H2 hw s2 h2=>⟨w,rfl,⟨_,SqL.of h2⟩,Zfx (λo=>decide ((j:Int)<o)) h2 (by simp only[wayI,Yc];exact Yh (ZiF _ _ _) (by omega)) (λx Hz R hR=>?_) λl H3 s3 hl=>?_⟩⟩
  ·walk_at "rd"
   exact hR
  ·refine⟨l,rfl,_,.inl (SqL.of Zb),CW.next hj ?_ ((s.trans (s2.trans s3)).ZS hl)⟩
   have:((wayI T' j).filter λo=>decide ((j:Int)<o)).length=Zbx T' j:=by
    rw[ZiK,List.filter_map,Yc]
    unfold Zbx
    refine ZcR λo ho=>?_
    rw[Bool.eq_iff_iff]
    simp
   rw[Yc,this]
 ·intro l' Hx s hl'
  have ed:(List.range T'.length).map (λq=>V.int (Zbx T' q:Nat))=(Zau T').map V.int:=by simp[Zau]
  rw[ed]
  exact k1 l' _ (s.free hl') (s.ZS hl') Zb
theorem Zlm {f:Addr}{fd:FuncData} (F:Fun K "lesser" "lesser" ZcS f fd) (T:Txt K mg):FnOk P w K mg base (CXE P w) 1 f fd ["row","one","other"] (Zfz K mg):=by
 refine F.okX Zll (λvs H Q E h=>?_) (λcdv A outer s H vs Q E hr h=>?_)
 ·obtain⟨r,ns,i,j,rfl,_⟩:=h;rfl
 obtain⟨r,ns,i,j,rfl,hS,hi,hj,k1⟩:=h
 refine⟨_,(Zg (Zx (ZlR (Zo Zcd (ZD (ix_q (K:=K) rfl) (pv 0) (pv 2) (λ_ _=>rfl)) (ZD (ix_q (K:=K) rfl) (pv 0) (pv 1) (λ_ _=>rfl)) (Zr _)) (pv 2) (pv 1)))),?_⟩
 walk_at "rd"
 refine⟨_,hS,_,Zby hj,_,hS,_,Zby hi,_,rfl,_,rfl,?_⟩
 by_cases h:nth ns j<nth ns i
 ·rw[Yd h]at k1⊢;exact k1
 ·rw[Ye h]at k1⊢;exact k1
theorem Zia {f:Addr}{fd:FuncData} (F:Fun K "low_steps" "low_steps" ZaW f fd) (ZgD:Callee P w K mg base "lesser" 1 ["row","one","other"] (Zfz K mg)) (T:Txt K mg):FnOk P w K mg base (CXE P w) 2 f fd ["row"] (Zc7 K mg):=by
 refine F.okX Zba (λvs H Q E h=>?_) (λcdv A outer s H vs Q E hr h=>?_)
 ·obtain⟨r,ns,rfl,_⟩:=h;rfl
 obtain⟨r,ns,rfl,hS,hn,k1⟩:=h
 refine⟨_,(Zd (Zp (i:=1) Zba.nd rfl (Or.inl rfl) (ZX Zc))
   (Zd (Zp (i:=2) Zba.nd rfl (Or.inr rfl) (ZP (Zg0 rfl) rfl T.b_list Zce (Za (Zk1 rfl T.b_range (Za (Zh (Zl (K:=K) rfl) rfl T.b_len Yg (Za (pv 0) Zc)) Zc)) Zc)))
   (Zd (Zat (ZaG PassesOwn.never rfl (Zee rfl T.b_range (Za Ze (Za (Zj Zy (Zh (Zl (K:=K) rfl) rfl T.b_len Yg (Za (pv 0) Zc)) Ze) Zc))) (Zm (i:=3) Zba.nd rfl (Or.inr rfl)) (Zd (Zp (i:=2) Zba.nd rfl (Or.inr rfl) (Zai ["a","row","lows","size"] [none,some 0,some 2,some 3] rfl rfl rfl (Z4 rfl T.b_range (Za (Zj Zy (Zj ZZ (Zh (Zl (K:=K) rfl) rfl T.b_len Yg (Za (pv 0) Zc)) (pv 3)) Ze) Zc)) (λ_ _ _ _ _=>(Zm (i:=0) (show(["a","row","lows","size"]:List Str).Nodup from by decide +kernel) rfl (Or.inl rfl))) (λ_ _ _ _ _=>Z7) (λ_ _ _ _ _=>(Zk ZgD (hr.mono (by decide)) rfl ZA (Za (pv 1) (Za (ZD (r:=rIxL K) ZL (pv 2) (pv 0) (λ_ _=>rfl)) (Za (Zj ZZ (Zj Zy (pv 0) (pv 3)) Ze) Zc))))) Zs))
   (Zg (Z6 (Zbl PySem.F.plainAttrs_list PySem.F.slot_list_append PySem.F.type_list_append Zaz (pv 1) (Za (Zai ["a","place"] [none,none] rfl rfl rfl (ZhY (K:=K) rfl rfl T.b_enumerate (Za (pv 2) Zc)) (λ_ _ _ _ _=>(Zef (K:=K) (n:=2) rfl rfl (Zt (Zm (i:=0) (show(["a","place"]:List Str).Nodup from by decide +kernel) rfl (Or.inl rfl)) (Zt (Zm (i:=1) (show(["a","place"]:List Str).Nodup from by decide +kernel) rfl (Or.inl rfl)) Zap)))) (λ_ _ _ _ _=>Z7) (λ_ _ _ _ _=>(Zj ZZ (pv 1) (pv 0))) (ZcM (ZT Zs (ZT Zs ZcL)))) Zc)))))))
   (Zg (Zx (pv 1)))))),?_⟩
 walk_at "rd"
 have eL:(ns.map V.int).length=ns.length:=Yc ..
 refine⟨Yr _,λtb htb=>⟨_,((Zf.refl H).upd htb).q hS,by omega,by rw[eL];omega,λrg hrg=>⟨_,Zb,by omega,by rw[eL];omega,λlw hlw=>?_⟩⟩⟩
 have en:(((ns.map V.int).length:Nat):Int).toNat=ns.length:=by rw[eL];omega
 rw[en]at *
 rw[eL]at hlw⊢
 have s0:Zf H (upd (upd (upd H tb (.lst [])) rg (.rng 0 (ns.length:Nat))) lw (.lst ((List.range ns.length).map λ(i:Nat)=>V.int (i:Int)))):=(((Zf.refl H).upd htb).ZS hrg).ZS hlw
 have hlw0:(upd (upd (upd H tb (.lst [])) rg (.rng 0 (ns.length:Nat))) lw (.lst ((List.range ns.length).map λ(i:Nat)=>V.int (i:Int)))) lw=some (.lst ((ZbA (nth ns) ns.length 0).map V.int)):=by
  rw[Zb,ZiL,YZ];rfl
 have hR0:Zch H (upd (upd (upd H tb (.lst [])) rg (.rng 0 (ns.length:Nat))) lw (.lst ((List.range ns.length).map λ(i:Nat)=>V.int (i:Int)))) tb []:=(Zch.nil htb).same (((Zf.refl _).ZS hrg).ZS hlw)
 generalize (upd (upd (upd H tb (.lst [])) rg (.rng 0 (ns.length:Nat))) lw (.lst ((List.range ns.length).map λ(i:Nat)=>V.int (i:Int))))=H0 at s0 hlw0 hR0⊢
 refine⟨_,s0.q hS,by decide,by decide,by omega,by rw[eL];omega,?_⟩
 have en2:((((ns.map V.int).length:Nat):Int)+1-1).toNat=ns.length:=by rw[eL];omega
 rw[en2]
 refine Zal (λi σ Hx=>∃lw v3,σ=[some (.ref r),some (.ref tb),some (.ref lw),v3]/\Zf H Hx/\Hx lw=some (.lst ((ZbA (nth ns) ns.length (i-1)).map V.int))/\Zch H Hx tb ((List.range i).map (Z2 (nth ns) ns.length))) ⟨lw,none,rfl,s0,hlw0,hR0⟩ ?_ ?_
 ·rintro i σ Hx hi ⟨lw,v3,rfl,sx,hxl,hR⟩
  have e1:((1:Int)+(i:Int))=((i+1:Nat):Int):=by omega
  rw[e1]
  refine ZM (fun σ Hy=>∃lw,σ=[some (.ref r),some (.ref tb),some (.ref lw),some (.int ((i+1:Nat):Int))]/\Zf H Hy/\Hy lw=some (.lst ((ZbA (nth ns) ns.length i).map V.int))/\Zch H Hy tb ((List.range i).map (Z2 (nth ns) ns.length))) (λR hRR=>?_) ?_
  ·walk_at "rd"
   refine⟨_,sx.q hS,by omega,by rw[eL];omega,?_⟩
   have en3:(((((ns.map V.int).length:Nat):Int)-((i+1:Nat):Int)+1)).toNat=ns.length-i:=by rw[eL];omega
   rw[en3]
   refine comp_map (n:=ns.length-i) (λa=>V.int (ZC (nth ns) a i:Nat)) (Yp (show _<=1000 by omega) (by decide)) (λj Hy s hj=>hj) (λHy s=>Ya _) ?_ ?_
   ·rintro a x Hy Hz ha sy ⟨rfl,rfl⟩
    have ea:((0:Int)+(a:Int))=(a:Int):=by omega
    rw[ea]
    walk_at "rd"
    have hlt:=Zeg (nth ns) a (i-1)
    refine⟨_,SqL.of (sy _ _ hxl),_,Zby (by rw[ZbT];omega),r,ns,ZC (nth ns) a (i-1),a+i,?_,(sx.trans sy).q hS,by omega,by omega,CW.next ha ?_ sy⟩
    ·rw[ZjC (by omega),show((a:Int)+((i+1:Nat):Int)-1)=((a+i:Nat):Int) by omega]
    ·rw[ZjD]
   ·intro q Hy sy hq
    refine hRR _ _ ⟨q,rfl,(sx.trans sy).ZS hq,?_,hR.same (sy.ZS hq)⟩
    rw[Zb];simp[ZbA]
  clear hxl hR sx Hx
  rintro σ Hx ⟨lw,rfl,sx,hxl,hR⟩
  walk_at "rd"
  obtain⟨as,r1,r2,r3,r4,r5,r6⟩:=id hR
  refine⟨ZI r1,_,SqL.of hxl,?_⟩
  refine comp_map (n:=ns.length-i) (λa=>V.int ((ZC (nth ns) a i:Int)-(a:Int))) (Yp (show _<=1000 by omega) (by decide)) (λj Hy s hj=>⟨_,_,SqL.of (s _ _ hxl),Yb (by rw[Yc,ZbT];exact hj)⟩) (λHy s=>⟨_,SqL.of (s _ _ hxl),by rw[Yc,ZbT]⟩) ?_ ?_
  ·rintro a x Hy Hz ha sy ⟨q,v,hq,rfl,rfl,hv⟩
   have ex:=hv _ (SqL.of (sy _ _ hxl))
   have ev:v=V.int (ZC (nth ns) a i:Nat):=by
    rw[Yt,Yb (by rw[ZbT];exact ha)]at ex
    cases ex
    simp[ZbA]
   subst ev
   walk_at "rd"
   exact⟨_,SqT.of Zb,rfl,_,_,rfl,_,_,rfl,rfl,_,rfl,_,rfl,CW.next ha rfl (sy.ZS hq)⟩
  ·intro q Hy sy hq
   have u:=sy.ZS (o:=.lst ((List.range (ns.length-i)).map λa=>V.int ((ZC (nth ns) a i:Int)-(a:Int)))) hq
   have ntq:tb≠q:=λz=>by rw[<-z,sy _ _ r1]at hq;cases hq
   have hqq:(upd Hy q (.lst ((List.range (ns.length-i)).map λa=>V.int ((ZC (nth ns) a i:Int)-(a:Int))))) q=some (.lst ((Z2 (nth ns) ns.length i).map V.int)):=by rw[Zb];simp[Z2]
   have RN:=Zch.push (H0:=H) (p:=q) (rs:=(List.range i).map (Z2 (nth ns) ns.length)) (r:=Z2 (nth ns) ns.length i) (u _ _ r1) r2 r3 (λj h1 h2=>u _ _ (r4 j h1 h2)) r5 r6 hqq ntq.symm ((sx.trans sy).free hq)
   rw[<-ZhZ]at RN
   have nlt:lw≠tb:=λz=>by
    rw[z,r1]at hxl
    have:=HO.lst.inj (Yx hxl)
    cases as with
    |nil =>
     have h9:=congrArg List.length this
     rw[Yc,Yc,ZbT]at h9
     simp at h9;omega
    |cons c as =>
     have h9:=congrArg List.head? this
     rw[YS,List.head?_cons]at h9
     cases hc:(ZbA (nth ns) ns.length i)with
     |nil=>rw[hc]at h9;cases h9
     |cons d ds=>rw[hc]at h9;cases h9
   refine⟨_,u _ _ r1,Yp (show _<=1000 by rw[Yc,r3];simp;omega) (by decide),(sx.trans u).upd r5,?_,RN⟩
   rw[Zq nlt]
   exact u _ _ hxl
 ·rintro σ Hx ⟨lw,v3,rfl,sx,hxl,hR⟩
  walk_at "rd"
  exact k1 tb Hx sx hR.rows
theorem ZjR {f:Addr}{fd:FuncData} (F:Fun K "parting" "parting" ZbP f fd) (T:Txt K mg):FnOk P w K mg base (CXE P w) 1 f fd ["ones","others","one","other","size"] (ZeC K mg):=by
 refine F.okX ZbX (λvs H Q E h=>?_) (λcdv A outer s H vs Q E hr h=>?_)
 ·obtain⟨l,l',f,g,n,n',x,y,size,rfl,_⟩:=h;rfl
 obtain⟨l,l',f',g,n,n',x,y,size,rfl,hL,hL',hx,hy,hn,hn',k1,k2⟩:=h
 refine⟨_,(Zd (Zat (ZaG PassesOwn.never rfl (Zee rfl T.b_range (Za Ze (Za (pv 4) Zc))) (Zm (i:=5) ZbX.nd rfl (Or.inl rfl)) (Zd (Zp (i:=6) ZbX.nd rfl (Or.inl rfl) (ZO Z1 (ZD ZL (pv 0) (pv 5) (λ_ _=>rfl)) (ZG (pv 2)) (ZG (Zj ZZ (Zj Zy (pv 2) (pv 4)) (pv 5)))))
   (Zd (Zp (i:=7) ZbX.nd rfl (Or.inl rfl) (ZO Z1 (ZD ZL (pv 1) (pv 5) (λ_ _=>rfl)) (ZG (pv 3)) (ZG (Zj ZZ (Zj Zy (pv 3) (pv 4)) (pv 5)))))
   (Zg (ZK (Zo (Zjw (K:=K) rfl hr) (pv 6) (pv 7) (Zr _)) (Zd (Zp (i:=8) ZbX.nd rfl (Or.inl rfl) (Zbl PySem.F.plainAttrs_list PySem.F.slot_list_index PySem.F.type_list_index (Zlc (K:=K) rfl) (Zai ["x","y"] [none,none] rfl rfl rfl (Zjv rfl T.b_zip (Za (pv 6) (Za (pv 7) Zc))) (λ_ _ _ _ _=>(Zef (K:=K) (n:=2) rfl rfl (Zt (Zm (i:=0) (show(["x","y"]:List Str).Nodup from by decide +kernel) rfl (Or.inl rfl)) (Zt (Zm (i:=1) (show(["x","y"]:List Str).Nodup from by decide +kernel) rfl (Or.inl rfl)) Zap)))) (λ_ _ _ _ _=>Z7) (λ_ _ _ _ _=>(ZcW ZaV (pv 0) (pv 1) (Zr _))) (ZcM (ZT Zs (ZT Zs ZcL)))) (Za ZbF Zc)))
   (Zg (Zx (Z0 (Za (pv 8) (Za (Zj Zy (pv 8) (pv 5)) Zc)))))) Zu))))))
   (Zg (Zx ZlO))),?_⟩
 walk_at "rd"
 have en:((size:Int)-1).toNat=size-1:=by omega
 rw[en]
 refine⟨by decide,by decide,by omega,by omega,Zal (λi σ Hx=>∃v5 v6 v7 v8,σ=[some (.ref l),some (.ref l'),some (.int x),some (.int y),some (.int size),v5,v6,v7,v8]/\Zf H Hx/\∀m,m<i+1->∀a,a+m<size->(ZC f' (x+a) m:Int)-(x+a:Nat)=(ZC g (y+a) m:Int)-(y+a:Nat)) ⟨_,_,_,_,rfl,Zf.refl H,λm hm a ha=>?_⟩ ?_ ?_⟩
 ·have:m=0:=by omega
  subst this
  simp[ZC]
 ·rintro i σ Hx hi ⟨v5,v6,v7,v8,rfl,sx,hI⟩
  have e1:((1:Int)+(i:Int))=((i+1:Nat):Int):=by omega
  rw[e1]
  have cutE:∀(f:Nat->Int) (n x:Nat),x+size<=n->ZbH ((Z2 f n (i+1)).map V.int) (some (x:Int)) (some ((x:Int)+(size:Int)-((i+1:Nat):Int)))=(((List.range (size-(i+1))).map λa=>(ZC f (x+a) (i+1):Int)-(x+a:Nat)).map V.int):=λf n x hx=>by
   have e2:((x:Int)+(size:Int)-((i+1:Nat):Int))=((x+(size-(i+1)):Nat):Int):=by omega
   rw[e2,Zkr _ _ _ (by omega) (by simp[Z2];omega),<-List.map_drop,<-List.map_take]
   congr 1
   refine List.ext_getElem (by simp[Z2];omega) λj h1 h2=>?_
   have hj:j<size-(i+1):=by simpa using h2
   simp[Z2]
  refine ZM (fun σ Hy=>∃q q',σ=[some (.ref l),some (.ref l'),some (.int x),some (.int y),some (.int size),some (.int ((i+1:Nat):Int)),some (.ref q),v7,v8]/\q=q'/\Zf H Hy/\Hy q=some (.lst (((List.range (size-(i+1))).map λa=>(ZC f' (x+a) (i+1):Int)-(x+a:Nat)).map V.int))) (λR hR=>?_) ?_
  ·walk_at "rd"
   obtain⟨xs,a,g1,g2,g3⟩:=Zc0 (K:=K) (hL.same sx) (i:=i+1) (by omega)
   refine⟨_,g1,_,g2,a,rfl,_,SqL.of g3,λq hq=>?_⟩
   rw[cutE f' n x hx]
   exact hR _ _ ⟨q,q,rfl,rfl,sx.ZS hq,Zb⟩
  rintro σ H1 ⟨q,_,rfl,rfl,s1,hq⟩
  refine ZM (fun σ Hy=>∃q',σ=[some (.ref l),some (.ref l'),some (.int x),some (.int y),some (.int size),some (.int ((i+1:Nat):Int)),some (.ref q),some (.ref q'),v8]/\Zf H Hy/\Hy q=some (.lst (((List.range (size-(i+1))).map λa=>(ZC f' (x+a) (i+1):Int)-(x+a:Nat)).map V.int))/\Hy q'=some (.lst (((List.range (size-(i+1))).map λa=>(ZC g (y+a) (i+1):Int)-(y+a:Nat)).map V.int))) (λR hR=>?_) ?_
  ·walk_at "rd"
   obtain⟨xs,a,g1,g2,g3⟩:=Zc0 (K:=K) (hL'.same s1) (i:=i+1) (by omega)
   refine⟨_,g1,_,g2,a,rfl,_,SqL.of g3,λq' hq'=>?_⟩
   rw[cutE g n' y hy]
   exact hR _ _ ⟨q',rfl,s1.ZS hq',((Zf.refl H1).upd hq') _ _ hq,Zb⟩
  clear s1 hq H1
  rintro σ H1 ⟨q',rfl,s1,hq,hq'⟩
  walk_at "rd"
  refine⟨_,Zcg (n:=2) Zcf _ _ _ _ (Z8 (SqL.of hq)) (Z8 (SqL.of hq')),ZE (λz=>⟨_,SqL.of hq,_,SqL.of hq',?_⟩) λz=>⟨s1,λm hm a ha=>?_⟩⟩
  ·have hne:=of_decide_eq_false z
   have hne2:¬ ∀a,a<size-(i+1)->(ZC f' (x+a) (i+1):Int)-(x+a:Nat)=(ZC g (y+a) (i+1):Int)-(y+a:Nat):=λh=>hne (List.map_congr_left λa ha=>h a (by simpa using ha))
   obtain⟨a,a1,a2,a3⟩:=Zhv _ hne2
   have PA':Zmp f' g x y size a (i+1):=⟨by omega,a2,λm' hm' a' ha'=>hI m' hm' a' ha',a3⟩
   refine comp_map (n:=size-(i+1)) (λj=>V.bl (decide ((ZC f' (x+j) (i+1):Int)-(x+j:Nat)=(ZC g (y+j) (i+1):Int)-(y+j:Nat)))) (Yp (show _<=1000 by omega) (by decide)) (λj Hy s hj=>⟨_,_,_,_,SqL.of (s _ _ hq),SqL.of (s _ _ hq'),Yb (by simpa using hj),Yb (by simpa using hj)⟩) (λHy s=>⟨_,_,SqL.of (s _ _ hq),SqL.of (s _ _ hq'),.inl (by simp)⟩) ?_ ?_
   ·rintro j v Hy Hz hj sy ⟨p,v1,v2,hp,rfl,rfl,w1,w2⟩
    have ex1:=w1 _ (SqL.of (sy _ _ hq))
    have ex2:=w2 _ (SqL.of (sy _ _ hq'))
    rw[Yb (by simpa using hj)]at ex1 ex2
    have ev1:=(Yx ex1).symm
    have ev2:=(Yx ex2).symm
    simp only[List.getElem_map,List.getElem_range]at ev1 ev2
    subst ev1 ev2
    walk_at "rd"
    refine⟨_,SqT.of Zb,rfl,_,_,rfl,_,_,rfl,rfl,rfl,CW.next hj ?_ (sy.ZS hp)⟩
    congr 1
    rw[Bool.eq_iff_iff,decide_eq_true_eq,decide_eq_true_eq]
    exact⟨λh=>V.int.inj h,λh=>by rw[h]⟩
   ·intro b Hy sy hb
    refine⟨ZI Zb,b,rfl,_,SqL.of Zb,by simp;omega,?_,rfl,a,⟨V.bl false,?_,rfl⟩,λj v hj hv=>?_,by decide,λt ht=>?_⟩
    ·rw[List.all_eq_true]
     intro v hv
     obtain⟨k,_,rfl⟩:=YB.mp hv
     rfl
    ·simp[a1]
     exact a2
    ·rw[Yt,List.getElem?_range (by omega)]at hv
     cases hv
     show eqV (V.bl (decide _)) (V.bl false)=false
     rw[Yo (a3 j hj)];rfl
    ·refine k2 a (i+1) PA' t _ ((s1.trans (sy.ZS hb)).ZS ht) ?_
     rw[Zb];simp
  ·have heq:=Decidable.of_not_not (λy=>z (Yu y))
   by_cases e:m=i+1
   ·subst e
    have:=congrArg (λl=>l.getD a 0) heq
    simpa[Yj,show a<size-(i+1) by omega]using this
   ·exact hI m (by omega) a ha
 ·rintro σ Hx ⟨v5,v6,v7,v8,rfl,sx,hI⟩
  walk_at "rd"
  refine k1 (λm a ha=>?_) _ sx
  exact hI m (by omega) a ha
theorem ZiZ {f:Addr}{fd:FuncData} (F:Fun K "_law_kin" "_law_kin" Zbp f fd) (T:Txt K mg):FnOk P w K mg base (CXE P w) 1 f fd ["one","other"] (ZdG K mg):=by
 refine F.okX Zaw (λvs H Q E h=>?_) (λcdv A outer s H vs Q E hr h=>?_)
 ·obtain⟨r,r',ns,ms,rfl,_⟩:=h;rfl
 obtain⟨r,r',ns,ms,rfl,hr1,hr2,hn,hm,k1⟩:=h
 refine⟨_,(Zd (ZK (Zo Zgg (Zh (Zl (K:=K) rfl) rfl T.b_len Yg (Za (pv 0) Zc)) (Zh (Zl (K:=K) rfl) rfl T.b_len Yg (Za (pv 1) Zc)) (Zr _)) (Zg (Zx ZbF)) Zu)
   (Zd (Zp (i:=2) Zaw.nd rfl (Or.inl rfl) (ZX Zc))
   (Zd (Zp (i:=3) Zaw.nd rfl (Or.inl rfl) (ZX Zc))
   (Zd (Zat (ZaG PassesOwn.never rfl (Zjv rfl T.b_zip (Za (pv 0) (Za (pv 1) Zc))) (ZcU (n:=2) rfl (Zt (Zm (i:=4) Zaw.nd rfl (Or.inr rfl)) (Zt (Zm (i:=5) Zaw.nd rfl (Or.inr rfl)) Zap))) (Zd (Za9 (i:=2) ["some","number"] [none,some 4] Zaw.nd rfl (Or.inl rfl) rfl rfl rfl (Zbt (pv 2)) (λ_ _ _ _ _=>(Zm (i:=0) (show(["some","number"]:List Str).Nodup from by decide +kernel) rfl (Or.inl rfl))) (λ_ _ _ _ _=>ZbR (Zo Zdz (pv 0) (pv 1) (Zr _))) (λ_ _ _ _ _=>(pv 0)) Zs)
   (Zd (Za9 (i:=3) ["some","beside"] [none,some 5] Zaw.nd rfl (Or.inl rfl) rfl rfl rfl (Zbt (pv 3)) (λ_ _ _ _ _=>(Zm (i:=0) (show(["some","beside"]:List Str).Nodup from by decide +kernel) rfl (Or.inl rfl))) (λ_ _ _ _ _=>ZbR (Zo Zdz (pv 0) (pv 1) (Zr _))) (λ_ _ _ _ _=>(pv 0)) Zs)
   (Zd (ZK (Zo Zgg (Zh (Zl (K:=K) rfl) rfl T.b_len Yg (Za (pv 2) Zc)) (Zh (Zl (K:=K) rfl) rfl T.b_len Yg (Za (pv 3) Zc)) (Zr _)) (Zg (Zx ZbF)) Zu)
   (Zd (Z6 (Zbl PySem.F.plainAttrs_list PySem.F.slot_list_append PySem.F.type_list_append Zaz (pv 2) (Za (pv 4) Zc)))
   (Zg (Z6 (Zbl PySem.F.plainAttrs_list PySem.F.slot_list_append PySem.F.type_list_append Zaz (pv 3) (Za (pv 5) Zc))))))))))
   (Zg (Zx ZbF)))))),?_⟩
 walk_at "rd"
 have eN:(ns.map V.int).length=ns.length:=Yc ..
 have eM:(ms.map V.int).length=ms.length:=Yc ..
 refine⟨_,.inl (SqL.of hr1),_,.inl (SqL.of hr2),ZE (λz=>k1 false _ ⟨(λy=>nomatch y),λy=>absurd (by rw[eN,eM,y.1]) z⟩ (Zf.refl H)) λz=>⟨Yr _,λp hp=>⟨Yr _,λq hq=>?_⟩⟩⟩
 have el:ns.length=ms.length:=by rw[eN,eM]at z;omega
 have s0:=((Zf.refl H).upd (o:=.lst []) hp).ZS (o:=.lst []) hq
 have nqp:q≠p:=λz=>by rw[z,Zb]at hq;cases hq
 have zq:H q=none:=((Zf.refl H).upd hp).free hq
 refine⟨_,SqL.of (s0 _ _ hr1),_,SqL.of (s0 _ _ hr2),?_⟩
 refine Zmq (n:=ns.length) (λi σ Hx=>∃(S:List Nat) (p q:Addr) (v4 v5:Option V),σ=[some (.ref r),some (.ref r'),some (.ref p),some (.ref q),v4,v5]/\Alike (nth ns) (nth ms) i S/\S.length<=i/\p≠q/\H p=none/\H q=none/\Zf H Hx/\Hx p=some (.lst ((S.map (nth ns)).map V.int))/\Hx q=some (.lst ((S.map (nth ms)).map V.int))) ⟨[],p,q,none,none,rfl,ZjH _ _,by simp,nqp.symm,hp,zq,s0,((Zf.refl _).ZS hq) _ _ Zb,Zb⟩ (λi σ Hx hi ⟨_,_,_,_,_,_,_,_,_,_,_,sx,_,_⟩=>⟨_,_,_,_,SqL.of (sx _ _ hr1),SqL.of (sx _ _ hr2),Yb (by rw[eN];exact hi),Yb (by rw[eM];omega)⟩) (fun σ Hx ⟨_,_,_,_,_,_,_,_,_,_,_,sx,_,_⟩=>⟨_,_,SqL.of (sx _ _ hr1),SqL.of (sx _ _ hr2),.inl (by rw[eN];omega)⟩) ?_ ?_
 ·clear s0 nqp zq hq hp q p
  rintro i x σ Hx Hx' hi ⟨S,p,q,v4,v5,rfl,hA,hS,npq,zp,zq,sx,hxp,hxq⟩ ⟨u,x,y,hu,rfl,rfl,hx,hy⟩
  have ex:=hx _ (SqL.of (sx _ _ hr1))
  have ey:=hy _ (SqL.of (sx _ _ hr2))
  rw[Yt,Yb hi]at ex
  rw[Yt,Yb (show i<ms.length by omega)]at ey
  cases ex
  cases ey
  have eg:ns[i]=nth ns i:=by simp[nth,Yj,hi]
  have eh:ms[i]'(by omega)=nth ms i:=by simp[nth,Yj,show i<ms.length by omega]
  rw[eg,eh]
  have g:=(Zf.refl Hx).upd (o:=.tup [.int (nth ns i),.int (nth ms i)]) hu
  have tq:(upd Hx u (.tup [.int (nth ns i),.int (nth ms i)])) u=some (.tup [.int (nth ns i),.int (nth ms i)]):=Zb
  replace sx:=sx.trans g
  replace hxp:=g _ _ hxp
  replace hxq:=g _ _ hxq
  generalize upd Hx u (.tup [.int (nth ns i),.int (nth ms i)])=Hy at sx hxp hxq tq⊢
  clear g hx hy hu Hx
  refine⟨u,_,rfl,SqT.of tq,rfl,_,_,rfl,_,_,rfl,rfl,?_⟩
  clear tq
  obtain⟨A,A',eA,eA',hyes,hno⟩:=ZjI hA
  have lA:A.length<=i:=by
   have:=congrArg List.length eA
   rw[Yc]at this
   rw[<-this]
   exact Yh (Y3 _ _) (by rw[Yc];exact hS)
  have lA':A'.length<=i:=by
   have:=congrArg List.length eA'
   rw[Yc]at this
   rw[<-this]
   exact Yh (Y3 _ _) (by rw[Yc];exact hS)
  refine ZM (fun σ Hx=>∃p,σ=[some (.ref r),some (.ref r'),some (.ref p),some (.ref q),some (.int (nth ns i)),some (.int (nth ms i))]/\p≠q/\H p=none/\Zf H Hx/\Hx p=some (.lst ((A.map (nth ns)).map V.int))/\Hx q=some (.lst ((S.map (nth ms)).map V.int))) (λR hR=>?_) ?_
  ·walk_at "rd"
   refine⟨⟨_,SqL.of hxp⟩,Zfx (λo=>decide (o<=nth ns i)) hxp (by rw[Yc];omega) (λx Hz R hR=>?_) λl H3 s3 hl=>?_⟩
   ·walk_at "rd"
    exact hR
   ·rw[eA]
    have g3:=s3.ZS (o:=.lst ((A.map (nth ns)).map V.int)) hl
    exact hR _ _ ⟨l,rfl,(λz=>by rw[z,s3 _ _ hxq]at hl;cases hl),(sx.trans s3).free hl,sx.trans g3,Zb,g3 _ _ hxq⟩
  clear hxp hxq sx zp npq Hy
  rintro σ Hy ⟨p,rfl,npq,zp,sx,hxp,hxq⟩
  refine ZM (fun σ Hx=>∃q,σ=[some (.ref r),some (.ref r'),some (.ref p),some (.ref q),some (.int (nth ns i)),some (.int (nth ms i))]/\p≠q/\H q=none/\Zf H Hx/\Hx p=some (.lst ((A.map (nth ns)).map V.int))/\Hx q=some (.lst ((A'.map (nth ms)).map V.int))) (λR hR=>?_) ?_
  ·walk_at "rd"
   refine⟨⟨_,SqL.of hxq⟩,Zfx (λo=>decide (o<=nth ms i)) hxq (by rw[Yc];omega) (λx Hz R hR=>?_) λl H3 s3 hl=>?_⟩
   ·walk_at "rd"
    exact hR
   ·rw[eA']
    have g3:=s3.ZS (o:=.lst ((A'.map (nth ms)).map V.int)) hl
    exact hR _ _ ⟨l,rfl,(λz=>by rw[<-z,s3 _ _ hxp]at hl;cases hl),(sx.trans s3).free hl,sx.trans g3,g3 _ _ hxp,Zb⟩
  clear hxp hxq sx zq npq q Hy
  rintro σ Hy ⟨q,rfl,npq,zq,sx,hxp,hxq⟩
  refine ZM (fun σ Hx=>σ=[some (.ref r),some (.ref r'),some (.ref p),some (.ref q),some (.int (nth ns i)),some (.int (nth ms i))]/\A.length=A'.length/\Hx=Hy) (λR hR=>?_) ?_
  ·walk_at "rd"
   refine⟨_,.inl (SqL.of hxp),_,.inl (SqL.of hxq),ZE (λy=>k1 false _ ⟨(λw=>nomatch w),λw=>absurd (w.2 i hi) (hno λe=>y ?_)⟩ sx) λy=>hR _ _ ⟨rfl,?_,rfl⟩⟩
   ·rw[Yc,Yc,Yc,Yc,e]
   ·rw[Yc,Yc,Yc,Yc]at y;omega
  rintro σ Hx ⟨rfl,hl,rfl⟩
  obtain⟨rfl,hA2⟩:=hyes hl
  walk_at "rd"
  have eq:(upd Hx p (.lst ((A.map (nth ns)).map V.int++[V.int (nth ns i)]))) q=some (.lst ((A.map (nth ms)).map V.int)):=by rw[Zq (λz=>npq z.symm)];exact hxq
  refine⟨ZI hxp,_,hxp,Yp (show _<=1000 by rw[Yc,Yc];omega) (by decide),ZI eq,_,eq,Yp (show _<=1000 by rw[Yc,Yc];omega) (by decide),A++[i],hA2,by simp;omega,npq,zp,zq,(sx.upd zp).upd zq,?_,?_⟩
  ·rw[Zq npq,Zb];simp
  ·rw[Zb];simp
 ·rintro σ Hx ⟨S,p,q,v4,v5,rfl,hA,hS,npq,zp,zq,sx,hxp,hxq⟩
  walk_at "rd"
  exact k1 true _ ⟨λ_=>⟨el,hA.2.2⟩,λ_=>rfl⟩ sx
theorem Zf2 {f:Addr}{fd:FuncData} (F:Fun K "_law_kin_row" "_law_kin_row" Zaf f fd) (Zi:Callee P w K mg base "_law_take" 1 ["pot","many"] (ZY K mg)) (ZdK:Callee P w K mg base "_law_tree" 1 ["row"] (Zc3 K mg)) (ZdL:Callee P w K mg base "_law_flat" 2 ["tree"] (Zc5 K mg)) (T:Txt K mg):FnOk P w K mg base (CXE P w) 3 f fd ["pot","row"] (ZbC K mg):=by
 refine F.okX Zak (λvs H Q E h=>?_) (λcdv A outer s H vs Q E hr h=>?_)
 ·obtain⟨p,r,ns,rfl,_⟩:=h;rfl
 obtain⟨p,r,ns,rfl,hP,nrp,hr1,hn,k1⟩:=h
 refine⟨_,(Zd (Zp (i:=2) Zak.nd rfl (Or.inl rfl) (Zk Zi (hr.mono (by decide)) rfl ZA (Za (pv 0) (Za Ze Zc))))
   (Zd (Zp (i:=3) Zak.nd rfl (Or.inr rfl) (Zj Zy Ze (Zk Zi (hr.mono (by decide)) rfl ZA (Za (pv 0) (Za Ze Zc)))))
   (Zd (Zp (i:=4) Zak.nd rfl (Or.inr rfl) (Zj ZZ (Zk Zi (hr.mono (by decide)) rfl ZA (Za (pv 0) (Za Ze Zc))) Ze))
   (Zd (ZK (Zo ZaV (pv 2) Ze (Zr _)) (Zg (Zx (Zai ["number","add"] [none,some 4] rfl rfl rfl (Zbt (pv 1)) (λ_ _ _ _ _=>(Zm (i:=0) (show(["number","add"]:List Str).Nodup from by decide +kernel) rfl (Or.inl rfl))) (λ_ _ _ _ _=>Z7) (λ_ _ _ _ _=>(Zj Zy (pv 0) (pv 1))) Zs))) Zu)
   (Zd (Zp (i:=5) Zak.nd rfl (Or.inl rfl) (Zk ZdL (hr.mono (by decide)) rfl ZA (Za (Zk ZdK (hr.mono (by decide)) rfl ZA (Za (pv 1) Zc)) Zc)))
   (Zd (ZK (Zo ZaV (pv 2) Ze (Zr _)) (Zg (Zx (Zai ["number","add","by"] [none,some 4,some 3] rfl rfl rfl (Zbt (pv 5)) (λ_ _ _ _ _=>(Zm (i:=0) (show(["number","add","by"]:List Str).Nodup from by decide +kernel) rfl (Or.inl rfl))) (λ_ _ _ _ _=>Z7) (λ_ _ _ _ _=>(Zj Zy (Zj Za7 (pv 0) (pv 2)) (pv 1))) Zs))) Zu)
   (Zg (Zx (Zai ["place","number","add"] [none,none,some 4] rfl rfl rfl (ZhY (K:=K) rfl rfl T.b_enumerate (Za (pv 5) Zc)) (λ_ _ _ _ _=>(Zef (K:=K) (n:=2) rfl rfl (Zt (Zm (i:=0) (show(["place","number","add"]:List Str).Nodup from by decide +kernel) rfl (Or.inl rfl)) (Zt (Zm (i:=1) (show(["place","number","add"]:List Str).Nodup from by decide +kernel) rfl (Or.inl rfl)) Zap)))) (λ_ _ _ _ _=>Z7) (λ_ _ _ _ _=>(Zj Zy (Zj Zy (Zj Za7 (pv 1) Ze) (pv 0)) (pv 2))) (ZcM (ZT Zs (ZT Zs ZcL)))))))))))),?_⟩
 walk_at "rd"
 refine⟨p,_,rfl,by decide,by decide,hP,λwy H1 w0 w1 P1 e1=>⟨p,_,rfl,by decide,by decide,P1,λb H2 b0 b1 P2 e2=>⟨_,rfl,p,_,rfl,by decide,by decide,P2,λad H3 a0 a1 P3 e3=>⟨_,rfl,rfl,?_⟩⟩⟩⟩
 have e13:Exc p H H3:=(e1.trans e2).trans e3
 have hr3:=e13 _ _ nrp hr1
 refine ZE (λ_=>⟨⟨_,SqL.of hr3⟩,?_⟩) λ_=>⟨r,ns,rfl,hr3,by omega,λt es H4 hT s4 ht=>⟨t,es,rfl,ht,by have:=hT.1;omega,λq hq=>ZjG hT hq,λw H5 hw s5 h5=>⟨rfl,?_⟩⟩⟩
 ·refine comp_map (n:=ns.length) (λj=>V.int (nth ns j+(ad-9))) (Yp hn (by decide)) (λj Hx s hj=>⟨_,_,SqL.of (s _ _ hr3),Yb (by simpa using hj)⟩) (λHx s=>⟨_,SqL.of (s _ _ hr3),by simp⟩) ?_ ?_
  ·rintro j x Hx Hy hj s ⟨rfl,hx⟩
   have ex:=hx _ (SqL.of (s _ _ hr3))
   rw[Yt,Yb hj]at ex
   cases ex
   have eg:nth ns j=ns[j]:=by simp[nth,Yj,hj]
   walk_at "rd"
   exact CW.next hj (by rw[eg]) s
  ·intro l Hx s hl
   exact k1 l ((List.range ns.length).map λj=>nth ns j+(ad-9)) _ (e13.free ((P3.same s).ne hl) (s.free hl)) (by simp) (by rw[Zb,YZ];rfl) (P3.same (s.ZS hl)) (e13.same (s.ZS hl)) (.order λj i h1 h2=>by rw[Zam h2,Zam (show j<ns.length by omega)];omega)
 ·have eT:es.length=ns.length:=hT.1
  have lF:(Zau es).length=ns.length:=by rw[Zfw];exact eT
  have P5:=P3.same (s4.trans s5)
  have e5:Exc p H H5:=e13.same (s4.trans s5)
  refine ZE (λ_=>⟨w,rfl,⟨_,SqL.of h5⟩,?_⟩) λ_=>⟨w,rfl,_,SqL.of h5,?_⟩
  ·refine comp_map (n:=ns.length) (λj=>V.int (nth (Zau es) j*(1+b)+(ad-9))) (Yp hn (by decide)) (λj Hx s hj=>⟨_,_,SqL.of (s _ _ h5),Yb (by rw[Yc,lF];exact hj)⟩) (λHx s=>⟨_,SqL.of (s _ _ h5),by rw[Yc];omega⟩) ?_ ?_
   ·rintro j x Hx Hy hj s ⟨rfl,hx⟩
    have ex:=hx _ (SqL.of (s _ _ h5))
    rw[Yt,Yb (show j<(Zau es).length by omega)]at ex
    cases ex
    have eg:nth (Zau es) j=(Zau es)[j]'(by omega):=by simp[nth,Yj,show j<(Zau es).length by omega]
    walk_at "rd"
    exact⟨mul_r (by omega) (by omega),CW.next hj (by rw[eg]) s⟩
   ·intro l Hx s hl
    exact k1 l ((List.range ns.length).map λj=>nth (Zau es) j*(1+b)+(ad-9)) _ (e5.free ((P5.same s).ne hl) (s.free hl)) (by simp) (by rw[Zb,YZ];rfl) (P5.same (s.ZS hl)) (e5.same (s.ZS hl)) ((Zgw hT (Zhu hT)).trans (.order λj i h1 h2=>by rw[Zam h2,Zam (show j<ns.length by omega)];have:=ZjJ (a:=nth (Zau es) j) (b:=nth (Zau es) i) (c:=1+b) (by omega);omega))
  ·refine comp_map (n:=ns.length) (λj=>V.int (nth (Zau es) j*50+(j:Int)+(ad-9))) (Yp hn (by decide)) (λj Hx s hj=>⟨_,_,SqL.of (s _ _ h5),Yb (by rw[Yc,lF];exact hj)⟩) (λHx s=>⟨_,SqL.of (s _ _ h5),by rw[Yc];omega⟩) ?_ ?_
   ·rintro j x Hx Hy hj s ⟨u,x,hu,rfl,rfl,hx⟩
    have ex:=hx _ (SqL.of (s _ _ h5))
    rw[Yt,Yb (show j<(Zau es).length by omega)]at ex
    cases ex
    have eg:nth (Zau es) j=(Zau es)[j]'(by omega):=by simp[nth,Yj,show j<(Zau es).length by omega]
    walk_at "rd"
    exact⟨_,SqT.of Zb,rfl,_,_,rfl,_,_,rfl,rfl,_,rfl,mul_r (by decide) (by decide),_,rfl,CW.next hj (by rw[eg]) (s.ZS hu)⟩
   ·intro l Hx s hl
    exact k1 l ((List.range ns.length).map λj=>nth (Zau es) j*50+(j:Int)+(ad-9)) _ (e5.free ((P5.same s).ne hl) (s.free hl)) (by simp) (by rw[Zb,YZ];rfl) (P5.same (s.ZS hl)) (e5.same (s.ZS hl)) ((Zgw hT (Zhu hT)).trans (.order λj i h1 h2=>by rw[Zam h2,Zam (show j<ns.length by omega)];omega))
theorem Zds {f:Addr}{fd:FuncData}{dV:Value} (F:FunD K "need_numbers" "need_numbers" Zad f fd dV) (T:Txt K mg):FnOk P w K mg base (CXE P w) 1 f fd ["row","fewest"] (ZaL K mg):=by
 refine F.okX Zf1 (λvs H Q E h=>?_) (λcdv A outer s H vs Q E hr h=>?_)
 ·obtain⟨r,ns,k,rfl,_⟩:=h;rfl
 obtain⟨r,ns,k,rfl,hS,hn,h0,h1,k1,k2⟩:=h
 refine⟨_,(Zg (ZK (Zo Zcd (Zh (Zl (K:=K) rfl) rfl T.b_len Yg (Za (pv 0) Zc)) (pv 1) (Zr _)) (Zg (Zl9 rfl rfl T.c_Empty T.x_Empty (Za (ZkY (ZhP (by decide) (Zma (Zh (Zl (K:=K) rfl) rfl T.b_len Yg (Za (pv 0) Zc)) (ZhP (by decide) (Zma (pv 1) (ZhP (by decide) pj_nil)))))) Zc) ZnG)) Zu)),?_⟩
 walk_at "rd"
 have eN:(ns.map V.int).length=ns.length:=Yc ..
 exact⟨_,hS,ZE (λz=>⟨_,hS,by omega,by rw[eN];omega,h0,by omega,λy=>⟨by decide,k2 (by rw[eN]at z;exact z)⟩⟩) λz=>k1 (by rw[eN]at z;omega)⟩
theorem Zib {f:Addr}{fd:FuncData} (F:Fun K "_law_text" "_law_text" Za2 f fd) (Zi:Callee P w K mg base "_law_take" 1 ["pot","many"] (ZY K mg)) (ZbZ:Callee P w K mg base "_law_kin_row" 3 ["pot","row"] (ZbC K mg)) (T:Txt K mg):FnOk P w K mg base (CXE P w) 4 f fd ["pot","row"] (Zc6 K mg):=by
 refine F.okX Zab (λvs H Q E h=>?_) (λcdv A outer s H vs Q E hr h=>?_)
 ·obtain⟨p,r,ns,rfl,_⟩:=h;rfl
 obtain⟨p,r,ns,rfl,hP,nrp,hr1,hn0,hn,k1⟩:=h
 refine⟨_,(Zd (Zp (i:=2) Zab.nd rfl (Or.inl rfl) (ZX Zc))
   (Zd (Zat (ZaG PassesOwn.never rfl (Z4 rfl T.b_range (Za (Zk Zi (hr.mono (by decide)) rfl ZA (Za (pv 0) (Za Ze Zc))) Zc)) (Zm (i:=3) Zab.nd rfl (Or.inl rfl)) (Zd (Zp (i:=4) Zab.nd rfl (Or.inl rfl) (Zk Zi (hr.mono (by decide)) rfl ZA (Za (pv 0) (Za Ze Zc))))
   (Zd (Zp (i:=5) Zab.nd rfl (Or.inl rfl) (Zk ZbZ (hr.mono (by decide)) rfl ZA (Za (pv 0) (Za (pv 1) Zc))))
   (Zd (Zp (i:=6) Zab.nd rfl (Or.inl rfl) (Zk Zi (hr.mono (by decide)) rfl ZA (Za (pv 0) (Za (Zh (Zl (K:=K) rfl) rfl T.b_len Yg (Za (pv 1) Zc)) Zc))))
   (Zd (ZK (Zo ZaV (pv 4) Ze (Zr _)) (Zg (Zev (Zj ZZ (Zj Zy (ZD ZL (pv 5) (pv 6) (λ_ _=>rfl)) (Zk Zi (hr.mono (by decide)) rfl ZA (Za (pv 0) (Za Ze Zc)))) Ze) (Zjp (pv 5) (pv 6) set_list (λ_=>rfl)))) Zu)
   (Zd (ZK (Zo ZaV (pv 4) Ze (Zr _)) (Zg (Zp (i:=5) Zab.nd rfl (Or.inl rfl) (ZO Z1 (pv 5) (ZG (pv 6)) Za4))) Zu)
   (Zd (ZK (Zo ZaV (pv 4) Ze (Zr _)) (Zg (Za9 (i:=5) ["number","pot"] [none,some 0] Zab.nd rfl (Or.inl rfl) rfl rfl rfl (Zbt (ZO Z1 (pv 1) (ZG (pv 6)) Za4)) (λ_ _ _ _ _=>(Zm (i:=0) (show(["number","pot"]:List Str).Nodup from by decide +kernel) rfl (Or.inl rfl))) (λ_ _ _ _ _=>Z7) (λ_ _ _ _ _=>(Zk Zi (hr.mono (by decide)) rfl ZA (Za (pv 1) (Za Ze Zc)))) Zs)) Zu)
   (Zg (Z6 (Zbl PySem.F.plainAttrs_list PySem.F.slot_list_extend PySem.F.type_list_extend ZkP (pv 2) (Za (pv 5) Zc))))))))))))
   (Zg (Zx (ZO Z1 (pv 2) Za4 (ZG Ze)))))),?_⟩
 walk_at "rd"
 refine⟨Yr _,λt ht=>⟨p,_,rfl,by decide,by decide,hP.upd ht,λd H1 d0 d1 P1 e1=>⟨d,rfl,by omega,by omega,?_⟩⟩⟩
 have ntp:t≠p:=hP.ne ht
 have ntr:t≠r:=(ZV hr1 ht).symm
 refine Zal (λb σ Hx=>∃(ms:List Int) (v3 v4 v5 v6:Option V),σ=[some (.ref p),some (.ref r),some (.ref t),v3,v4,v5,v6]/\ms.length<=40*b/\Hx t=some (.lst (ms.map V.int))/\Zz Hx p/\Exc p H Hx) ⟨[],none,none,none,none,rfl,by simp,e1 _ _ ntp Zb,P1,((Zf.refl H).upd ht).Zho.trans e1⟩ ?_ ?_
 ·rintro b σ Hx hb ⟨ms,v3,v4,v5,v6,rfl,hms,hxt,Px,ex⟩
  have hb9:b<9:=by omega
  refine ZM (fun σ Hx=>∃(y:Int),σ=[some (.ref p),some (.ref r),some (.ref t),some (.int ((0:Int)+(b:Int))),some (.int y),v5,v6]/\Hx t=some (.lst (ms.map V.int))/\Zz Hx p/\Exc p H Hx) (λR hR=>?_) ?_
  ·walk_at "rd"
   exact⟨p,_,rfl,by decide,by decide,Px,λy H2 y0 y1 P2 e2=>hR _ _ ⟨y,rfl,e2 _ _ ntp hxt,P2,ex.trans e2⟩⟩
  clear hxt Px ex Hx
  rintro σ Hx ⟨y,rfl,hxt,Px,ex⟩
  refine ZM (fun σ Hx=>∃(q:Addr) (ks:List Int),σ=[some (.ref p),some (.ref r),some (.ref t),some (.int ((0:Int)+(b:Int))),some (.int y),some (.ref q),v6]/\ks.length=ns.length/\H q=none/\q≠t/\q≠p/\Hx q=some (.lst (ks.map V.int))/\Hx t=some (.lst (ms.map V.int))/\Zz Hx p/\Exc p H Hx) (λR hR=>?_) ?_
  ·walk_at "rd"
   refine⟨p,r,ns,rfl,Px,nrp,ex _ _ nrp hr1,by omega,λq ks H2 zq hk hq P2 e2 _=>hR _ _ ⟨q,ks,rfl,hk,ex.free (Px.ne zq) zq,(λz=>by rw[z,hxt]at zq;cases zq),Px.ne zq,hq,e2 _ _ ntp hxt,P2,ex.trans e2⟩⟩
  clear hxt Px ex Hx
  rintro σ Hx ⟨q,ks,rfl,hk,zq,nqt,nqp,hxq,hxt,Px,ex⟩
  refine ZM (fun σ Hx=>∃(at':Nat),σ=[some (.ref p),some (.ref r),some (.ref t),some (.int ((0:Int)+(b:Int))),some (.int y),some (.ref q),some (.int (at':Int))]/\at'<ns.length/\Hx q=some (.lst (ks.map V.int))/\Hx t=some (.lst (ms.map V.int))/\Zz Hx p/\Exc p H Hx) (λR hR=>?_) ?_
  ·walk_at "rd"
   have eN:(ns.map V.int).length=ns.length:=Yc ..
   refine⟨_,.inl (SqL.of (ex _ _ nrp hr1)),p,_,rfl,by rw[eN];omega,by rw[eN];omega,Px,λu H2 u0 u1 P2 e2=>hR _ _ ⟨u.toNat,?_,by rw[eN]at u1;omega,e2 _ _ nqp hxq,e2 _ _ ntp hxt,P2,ex.trans e2⟩⟩
   rw[show((u.toNat:Nat):Int)=u by omega]
  clear hxt hxq Px ex Hx
  rintro σ Hx ⟨at',rfl,hat,hxq,hxt,Px,ex⟩
  refine ZM (fun σ Hx=>∃(ks:List Int),σ=[some (.ref p),some (.ref r),some (.ref t),some (.int ((0:Int)+(b:Int))),some (.int y),some (.ref q),some (.int (at':Int))]/\ks.length=ns.length/\Hx q=some (.lst (ks.map V.int))/\Hx t=some (.lst (ms.map V.int))/\Zz Hx p/\Exc p H Hx) (λR hR=>?_) ?_
  ·walk_at "rd"
   refine ZE (λ_=>?_) λ_=>hR _ _ ⟨ks,rfl,hk,hxq,hxt,Px,ex⟩
   refine⟨_,SqL.of hxq,_,Zby (by omega),p,_,rfl,by decide,by decide,Px,λu H2 u0 u1 P2 e2=>⟨_,rfl,_,rfl,_,e2 _ _ nqp hxq,at',?_,hR _ _ ⟨ks.set at' (nth ks at'+u-2),rfl,by simp[hk],by rw[Zb,List.map_set],by rw[Zq (λz=>nqt z.symm)];exact e2 _ _ ntp hxt,P2.ZcP nqp,(ex.trans e2).ZcP zq⟩⟩⟩
   exact Zks (by rw[Yc];omega)
  clear hxt hxq Px ex Hx hk ks
  rintro σ Hx ⟨ks,rfl,hk,hxq,hxt,Px,ex⟩
  refine ZM (fun σ Hx=>∃(q:Addr) (ks:List Int),σ=[some (.ref p),some (.ref r),some (.ref t),some (.int ((0:Int)+(b:Int))),some (.int y),some (.ref q),some (.int (at':Int))]/\ks.length<=40/\Hx q=some (.lst (ks.map V.int))/\Hx t=some (.lst (ms.map V.int))/\Zz Hx p/\Exc p H Hx) (λR hR=>?_) ?_
  ·walk_at "rd"
   refine ZE (λ_=>⟨_,SqL.of hxq,λu hu=>?_⟩) λ_=>hR _ _ ⟨q,ks,rfl,by omega,hxq,hxt,Px,ex⟩
   rw[ZbO]
   exact hR _ _ ⟨u,ks.drop at',rfl,by rw[YX];omega,by rw[Zb,List.map_drop],((Zf.refl Hx).upd hu) _ _ hxt,Px.upd hu,ex.same ((Zf.refl Hx).upd hu)⟩
  clear hxt hxq Px ex Hx hk ks nqt nqp zq q
  rintro σ Hx ⟨q,ks,rfl,hk,hxq,hxt,Px,ex⟩
  refine ZM (fun σ Hx=>∃(q:Addr) (ks:List Int),σ=[some (.ref p),some (.ref r),some (.ref t),some (.int ((0:Int)+(b:Int))),some (.int y),some (.ref q),some (.int (at':Int))]/\ks.length<=40/\Hx q=some (.lst (ks.map V.int))/\Hx t=some (.lst (ms.map V.int))/\Zz Hx p/\Exc p H Hx) (λR hR=>?_) ?_
  ·walk_at "rd"
   refine ZE (λ_=>⟨_,SqL.of (ex _ _ nrp hr1),λu hu=>⟨⟨_,SqL.of Zb⟩,?_⟩⟩) λ_=>hR _ _ ⟨q,ks,rfl,hk,hxq,hxt,Px,ex⟩
   rw[ZbO]
   have su:=(Zf.refl Hx).upd (o:=.lst ((ns.map V.int).drop at')) hu
   have nup:u≠p:=Px.ne hu
   have hl:((ns.map V.int).drop at').length=ns.length-at':=by simp
   refine Zmh (n:=ns.length-at') (λj acc Hz=>∃bs:List Int,acc=bs.map V.int/\bs.length=j/\Zz Hz p/\Exc p (upd Hx u (.lst ((ns.map V.int).drop at'))) Hz) (Yp (show _<=1000 by omega) (by decide)) ⟨[],rfl,rfl,Px.upd hu,(Zf.refl _).Zho⟩ (λj acc Hz ⟨_,_,_,_,ez⟩ hj=>⟨_,_,SqL.of (ez _ _ nup Zb),Yb (by rw[hl];exact hj)⟩) (λacc Hz ⟨_,_,_,_,ez⟩=>⟨_,SqL.of (ez _ _ nup Zb),by rw[hl];exact Ya _⟩) ?_ ?_
   ·rintro j x acc Hz Hw hj hla ⟨bs,rfl,hbs,Pz,ez⟩ ⟨rfl,hx⟩
    walk_at "rd"
    refine⟨p,_,rfl,by decide,by decide,Pz,λz H4 z0 z1 P4 e4=>CA.take hj hla ⟨bs++[z],by simp,by simp[hbs],P4,ez.trans e4⟩⟩
   ·rintro l acc Hz ⟨bs,rfl,hbs,Pz,ez⟩ _ hl
    have sl:=(Zf.refl Hz).upd (o:=.lst (bs.map V.int)) hl
    exact hR _ _ ⟨l,bs,rfl,by omega,Zb,sl _ _ (ez _ _ ntp (su _ _ hxt)),Pz.upd hl,((ex.same su).trans ez).same sl⟩
  clear hxt hxq Px ex Hx hk ks q
  rintro σ Hx ⟨q,ks,rfl,hk,hxq,hxt,Px,ex⟩
  walk_at "rd"
  refine⟨ZI hxt,_,hxt,_,hxq,Yh (show _<=1000 by rw[Yc,Yc];omega) (by decide),ms++ks,by simp;omega,by rw[Zb];simp,Px.ZcP ntp,ex.ZcP ht⟩
 ·rintro σ Hx ⟨ms,v3,v4,v5,v6,rfl,hms,hxt,Px,ex⟩
  walk_at "rd"
  refine⟨_,SqL.of hxt,λu hu=>?_⟩
  have e40:ZbH (ms.map V.int) none (some 40)=(ms.take 40).map V.int:=by
   have:=Zgn (ms.map V.int) 40
   rw[show((40:Nat):Int)=40 from rfl]at this
   rw[this,List.map_take]
  rw[e40]
  exact k1 u (ms.take 40) _ (ex.free (Px.ne hu) hu) (by rw[YW];omega) Zb (Px.upd hu) (ex.same ((Zf.refl Hx).upd hu))
open Classical in
theorem Zi0 {f:Addr}{fd:FuncData} (F:Fun K "_law_low" "_law_low" Zbq f fd) (T:Txt K mg):FnOk P w K mg base (CXE P w) 1 f fd ["row","a","b"] (Zcj K mg):=by
 refine F.okX ZfK (λvs H Q E h=>?_) (λcdv A outer s H vs Q E hr h=>?_)
 ·obtain⟨r,ns,a,c,rfl,_⟩:=h;rfl
 obtain⟨r,ns,a,c,rfl,hr1,hac,hn,k1⟩:=h
 refine⟨_,(Zd (Zp (i:=3) ZfK.nd rfl (Or.inl rfl) (Zh (ZkW rfl) rfl T.b_min Zmb (Za (ZO Z1 (pv 0) (ZG (pv 1)) (ZG (Zj Zy (pv 2) Ze))) Zc)))
   (Zg (Zx (Zj Zy (pv 1) (Zbl PySem.F.plainAttrs_list PySem.F.slot_list_index PySem.F.type_list_index (Zmj (K:=K) rfl) (ZO Z1 (pv 0) (ZG (pv 1)) (ZG (Zj Zy (pv 2) Ze))) (Za (pv 3) Zc)))))),?_⟩
 walk_at "rd"
 have e1:(((a+c:Nat):Int)+1)=((a+c+1:Nat):Int):=by omega
 rw[e1]
 have eC:ZbH (ns.map V.int) (some (a:Int)) (some ((a+c+1:Nat):Int))=((ns.drop a).take (c+1)).map V.int:=by
  rw[Zkr _ _ _ (by omega) (by rw[Yc];omega),show a+c+1-a=c+1 by omega,<-List.map_drop,<-List.map_take]
 have hlen:((ns.drop a).take (c+1)).length=c+1:=by rw[YW,YX];omega
 refine⟨_,SqL.of hr1,λp hp=>?_⟩
 rw[eC]
 refine⟨(ns.drop a).take (c+1),SqL.of Zb,(λz=>by rw[z]at hlen;cases hlen),λm hm1 hm2=>⟨_,SqL.of (((Zf.refl H).upd hp) _ _ hr1),λq hq=>?_⟩⟩
 rw[eC]
 refine⟨ZI Zb,(ns.drop a).take (c+1),SqL.of Zb,by omega,hm1,?_⟩
 have:=ZnT hac hm1 hm2
 have e3:((a:Int)+((List.idxOf m ((ns.drop a).take (c+1)):Nat):Int))=((ZC (nth ns) a c:Nat):Int):=by rw[<-this];omega
 rw[e3]
 exact k1 _ (((Zf.refl H).upd hp).ZS hq)
theorem Zi1 {f:Addr}{fd:FuncData} (F:Fun K "parts_at" "parts_at" Zbn f fd) (T:Txt K mg):FnOk P w K mg base (CXE P w) 1 f fd ["ones","others","one","other","a","b"] (ZdH K mg):=by
 refine F.okX ZiX (λvs H Q E h=>?_) (λcdv A outer s H vs Q E hr h=>?_)
 ·obtain⟨l,l',f,g,n,n',y,a,m,rfl,_⟩:=h;rfl
 obtain⟨l,l',f,g,n,n',y,a,m,rfl,R1,R2,h1,h2,hn,hn',k1⟩:=h
 refine⟨_,(Zg (Zx (ZcW Zgg (ZD ZL (ZD ZL (pv 0) (Zj ZZ (pv 5) (pv 4)) (λ_ _=>rfl)) (Zj Zy (pv 2) (pv 4)) (λ_ _=>rfl)) (ZD ZL (ZD ZL (pv 1) (Zj ZZ (pv 5) (pv 4)) (λ_ _=>rfl)) (Zj Zy (pv 3) (pv 4)) (λ_ _=>rfl)) (Zr _)))),?_⟩
 walk_at "rd"
 have e1:(((a+m:Nat):Int)-(a:Int))=((m:Nat):Int):=by omega
 have e2:((0:Int)+(a:Int))=((a:Nat):Int):=by omega
 have e3:((y:Int)+(a:Int))=((y+a:Nat):Int):=by omega
 rw[e1,e2,e3]
 obtain⟨xs,p,x1,x2,x3⟩:=Zc0 (K:=K) R1 (show m<n by omega)
 obtain⟨ys,q,y1,y2,y3⟩:=Zc0 (K:=K) R2 (show m<n' by omega)
 refine⟨xs,x1,_,x2,p,rfl,_,SqL.of x3,_,Zgu (by omega),ys,y1,_,y2,q,rfl,_,SqL.of y3,_,Zgu (by omega),rfl,?_⟩
 have:(!decide (V.int ((ZC f a m:Int)-(a:Int))=V.int ((ZC g (y+a) m:Int)-((y+a:Nat):Int))))=decide ((ZC f a m:Int)-(a:Nat)≠(ZC g (y+a) m:Int)-(y+a:Nat)):=by
  rw[<-decide_not]
  exact decide_eq_decide.mpr (not_congr ⟨λz=>V.int.inj z,λz=>by rw[z]⟩)
 rw[this];exact k1
theorem Zg5 {f:Addr}{fd:FuncData} (F:Fun K "all_tuples" "all_tuples" ZaC f fd) (T:Txt K mg):FnOk P w K mg base (CXE P w) 1 f fd ["entries"] (ZcA K mg):=by
 refine F.okX Zg3 (λvs H Q E h=>?_) (λcdv A outer s H vs Q E hr h=>?_)
 ·obtain⟨l,os,rfl,_⟩:=h;rfl
 obtain⟨l,os,rfl,hO,hn,k1⟩:=h
 refine⟨_,(Zg (Zx (Zh (Ze3 (K:=K) rfl rfl) rfl T.b_all ZhU (Za (Zai ["entry"] [none] rfl rfl rfl (ZhW (K:=K) rfl (pv 0)) (λ_ _ _ _ _=>(Zm (i:=0) (show(["entry"]:List Str).Nodup from by decide +kernel) rfl (Or.inl rfl))) (λ_ _ _ _ _=>Z7) (λ_ _ _ _ _=>(Zh (Zhp (K:=K) rfl) rfl T.b_isinstance Zen (Za (pv 0) (Za (Zj8 (v:=.ty "tuple") rfl T.b_tuple ZcN rfl) Zc)))) Zs) Zc)))),?_⟩
 walk_at "rd"
 refine hO.seq (K:=K) λit ⟨w1,w2,w3⟩=>?_
 refine comp_map (n:=os.length) (λ_=>V.bl true) (Yp hn (by decide)) (λj Hx s hj=>w1 j Hx s hj) (λHx s=>w2 Hx s) ?_ ?_
 ·rintro j x Hx Hy hj s y
  obtain⟨rfl,a,rfl,ha⟩:=w3 j x Hx Hy hj s y
  walk_at "rd"
  exact⟨_,.inl ⟨_,.tup ha,by with_unfolding_all rfl⟩,CW.next hj rfl s⟩
 ·intro l' Hx s hl'
  refine⟨l',rfl,List.replicate os.length true,SqL.of (by rw[Zb,List.map_replicate,List.map_const',Y2]),?_⟩
  have:=k1 _ (s.ZS (o:=.lst ((List.range os.length).map λ_=>V.bl true)) hl')
  simpa using this
theorem ZeE {f:Addr}{fd:FuncData} (F:Fun K "each_start_once" "each_start_once" ZU f fd) (T:Txt K mg):FnOk P w K mg base (CXE P w) 1 f fd ["many","starts","others"] (ZaP K mg):=by
 refine F.okX ZaQ (λvs H Q E h=>?_) (λcdv A outer s H vs Q E hr h=>?_)
 ·obtain⟨k,s,l,ss,ls,rfl,_⟩:=h;rfl
 obtain⟨k,s,l,ss,ls,rfl,hk,hk',hs,hl,ns,nl,k1⟩:=h
 refine⟨_,(Zd (Za9 (i:=3) ["start","others"] [none,some 2] ZaQ.nd rfl (Or.inl rfl) rfl rfl rfl (Z4 rfl T.b_range (Za (pv 0) Zc)) (λ_ _ _ _ _=>(Zm (i:=0) (show(["start","others"]:List Str).Nodup from by decide +kernel) rfl (Or.inl rfl))) (λ_ _ _ _ _=>ZbR (Zo (Zk7 (K:=K) rfl) (pv 0) (pv 1) (by with_unfolding_all rfl))) (λ_ _ _ _ _=>(pv 0)) Zs)
   (Zd (Za9 (i:=4) ["start","others"] [none,some 2] ZaQ.nd rfl (Or.inl rfl) rfl rfl rfl (Z4 rfl T.b_range (Za (pv 0) Zc)) (λ_ _ _ _ _=>(Zm (i:=0) (show(["start","others"]:List Str).Nodup from by decide +kernel) rfl (Or.inl rfl))) (λ_ _ _ _ _=>ZbR (Zo (op_inK (K:=K) rfl) (pv 0) (pv 1) (by with_unfolding_all rfl))) (λ_ _ _ _ _=>(pv 0)) Zs)
   (Zg (Zx (ZlQ (ZcW (ZhT (K:=K) rfl hr) (pv 1) (pv 3) (Zr _)) (ZlP (ZcW (ZhT (K:=K) rfl hr) (pv 2) (pv 4) (Zr _)))))))),?_⟩
 walk_at "rd"
 refine⟨by omega,by omega,?_⟩
 have fl:∀xs:List Int,(xs.map V.int).all flatV=true:=λxs=>by simp[flatV]
 refine ZcQ (n:=k.toNat) (λj=>decide (((j:Nat):Int)∉ls)) (λj=>V.int ((j:Nat):Int)) (Yp (show _<=1000 by omega) (by decide)) (λj Hx s hj=>hj) (λHx s=>Ya _) ?_ ?_
 ·rintro j x Hx Hy hj s ⟨rfl,rfl⟩
  have ej:((0:Int)+(j:Int))=(j:Int):=by omega
  rw[ej]
  walk_at "rd"
  refine⟨_,.inl (SqL.of (s _ _ hl)),rfl,fl ls,?_⟩
  rw[Zkt]
  by_cases h:((j:Nat):Int)∈ls
  ·rw[Yo h]
   exact ZE (λz=>nomatch z) λ_=>CF.skip hj (Yu (λz=>z h)) s
  ·rw[Yu h]
   exact ZE (λ_=>CF.take hj (Yo h) rfl s) λz=>absurd rfl z
 intro l1 H1 s1 z1
 rw[Zgv k.toNat (λj=>decide (j∉ls))]
 generalize hA:(((List.range k.toNat).map λ(j:Nat)=>(j:Int)).filter λj=>decide (j∉ls))=A1
 have g1:=s1.ZS (o:=.lst (A1.map V.int)) z1
 have hl1:(upd H1 l1 (.lst (A1.map V.int))) l1=some (.lst (A1.map V.int)):=Zb
 generalize upd H1 l1 (.lst (A1.map V.int))=H2 at g1 hl1⊢
 refine⟨by omega,by omega,?_⟩
 refine ZcQ (n:=k.toNat) (λj=>decide (((j:Nat):Int)∈ls)) (λj=>V.int ((j:Nat):Int)) (Yp (show _<=1000 by omega) (by decide)) (λj Hx s hj=>hj) (λHx s=>Ya _) ?_ ?_
 ·rintro j x Hx Hy hj s ⟨rfl,rfl⟩
  have ej:((0:Int)+(j:Int))=(j:Int):=by omega
  rw[ej]
  walk_at "rd"
  refine⟨_,.inl (SqL.of ((g1.trans s) _ _ hl)),rfl,fl ls,?_⟩
  rw[Zkt]
  by_cases h:((j:Nat):Int)∈ls
  ·rw[Yo h]
   exact ZE (λ_=>CF.take hj (Yo h) rfl s) λz=>absurd rfl z
  ·rw[Yu h]
   exact ZE (λz=>nomatch z) λ_=>CF.skip hj (Yu h) s
 intro l2 H3 s3 z3
 rw[Zgv k.toNat (λj=>decide (j∈ls))]
 generalize hB:(((List.range k.toNat).map λ(j:Nat)=>(j:Int)).filter λj=>decide (j∈ls))=B1
 have g3:=s3.ZS (o:=.lst (B1.map V.int)) z3
 have g:=g1.trans g3
 have O:Once k.toNat ss ls↔(ss=A1/\ls=B1):=by unfold Once;rw[hA,hB]
 refine⟨l1,rfl,_,Zcg (n:=2) Zcf _ _ ss A1 (Z8 (SqL.of (g _ _ hs))) (Z8 (SqL.of (g3 _ _ hl1))),ZE (λz=>⟨l2,rfl,_,Zcg (n:=2) Zcf _ _ ls B1 (Z8 (SqL.of (g _ _ hl))) (Z8 (SqL.of Zb)),?_⟩) λz=>?_⟩
 ·have:decide (ls=B1)=decide (Once k.toNat ss ls):=decide_eq_decide.mpr ⟨λy=>O.mpr ⟨YQ z,y⟩,λy=>(O.mp y).2⟩
  rw[this];exact k1 _ g
 ·have:decide (Once k.toNat ss ls)=false:=Yu λy=>z (Yo (O.mp y).1)
  have h:=k1 _ g
  rw[this]at h;exact h
open Classical in
theorem Zf3 {f:Addr}{fd:FuncData} (F:Fun K "starts_right" "starts_right" Zae f fd) (ZbE:Zh0 P w K mg base "need_numbers" 1 ["row","fewest"] [V.int 1] (ZaL K mg)) (Zc8:Callee P w K mg base "is_stretch" 1 ["many","a","b"] (Zcz K mg)) (Zcl:Callee P w K mg base "low_steps" 2 ["row"] (Zc7 K mg)) (ZfA:Callee P w K mg base "parting" 1 ["ones","others","one","other","size"] (ZeC K mg)) (ZeF:Callee P w K mg base "parts_at" 1 ["ones","others","one","other","a","b"] (ZdH K mg)) (Zc9:Callee P w K mg base "all_tuples" 1 ["entries"] (ZcA K mg)) (Zbb:Callee P w K mg base "each_start_once" 1 ["many","starts","others"] (ZaP K mg)) (T:Txt K mg):FnOk P w K mg base (CXE P w) 3 f fd ["row","text","starts","others"] (ZbD K mg):=by
 refine F.okX Zaj (λvs H Q E h=>?_) (λcdv A outer s H vs Q E hr h=>?_)
 ·obtain⟨r,t,s,l,ns,ms,ss,os,rfl,_⟩:=h;rfl
 obtain⟨r,t,s,l,ns,ms,ss,os,rfl,hS,hS2,hn,hm,hs,hsl,hO,hol,ho3,hn0,k2⟩:=h
 refine⟨_,(Zd (Z6 (Zlf ZbE (hr.mono (by decide)) rfl ZnF (Za (pv 0) Zc)))
   (Zd (Zp (i:=4) Zaj.nd rfl (Or.inr rfl) (Zh (Zl (K:=K) rfl) rfl T.b_len Yg (Za (pv 0) Zc)))
   (Zd (Za9 (i:=5) ["start","a","b"] [none,none,none] Zaj.nd rfl (Or.inl rfl) rfl rfl rfl (ZhW (K:=K) rfl (pv 3)) (λ_ _ _ _ _=>(Zef (K:=K) (n:=3) rfl rfl (Zt (Zm (i:=0) (show(["start","a","b"]:List Str).Nodup from by decide +kernel) rfl (Or.inl rfl)) (Zt (Zm (i:=1) (show(["start","a","b"]:List Str).Nodup from by decide +kernel) rfl (Or.inl rfl)) (Zt (Zm (i:=2) (show(["start","a","b"]:List Str).Nodup from by decide +kernel) rfl (Or.inl rfl)) Zap))))) (λ_ _ _ _ _=>Z7) (λ_ _ _ _ _=>(pv 0)) (ZcM (ZT Zs (ZT Zs (ZT Zs ZcL)))))
   (Zd (ZK (PW.pt (Zgc (Zcv (Zeu (Zk Zc9 (hr.mono (by decide)) rfl ZA (Za (pv 3) Zc)))) (Zfo (Zcv (Zeu (Zk Zbb (hr.mono (by decide)) rfl ZA (Za (Zj Zy (Zj ZZ (Zh (Zl (K:=K) rfl) rfl T.b_len Yg (Za (pv 1) Zc)) (pv 4)) Ze) (Za (ZP (ZaN (K:=K) rfl) rfl T.b_list Zce (Za (pv 2) Zc)) (Za (pv 5) Zc))))))))) (Zg (Zx ZbF)) Zu)
   (Zd (Zp (i:=6) Zaj.nd rfl (Or.inr rfl) (Zk Zcl (hr.mono (by decide)) rfl ZA (Za (pv 0) Zc)))
   (Zd (Zp (i:=7) Zaj.nd rfl (Or.inr rfl) (Zk Zcl (hr.mono (by decide)) rfl ZA (Za (pv 1) Zc)))
   (Zd (ZK (Zcv (Zeu (Zh (Ze3 (K:=K) rfl rfl) rfl T.b_all ZhU (Za (Zai ["start","a","b","size","here","there"] [none,none,none,some 4,some 6,some 7] rfl rfl rfl (ZhW (K:=K) rfl (pv 3)) (λ_ _ _ _ _=>(Zef (K:=K) (n:=3) rfl rfl (Zt (Zm (i:=0) (show(["start","a","b","size","here","there"]:List Str).Nodup from by decide +kernel) rfl (Or.inl rfl)) (Zt (Zm (i:=1) (show(["start","a","b","size","here","there"]:List Str).Nodup from by decide +kernel) rfl (Or.inl rfl)) (Zt (Zm (i:=2) (show(["start","a","b","size","here","there"]:List Str).Nodup from by decide +kernel) rfl (Or.inl rfl)) Zap))))) (λ_ _ _ _ _=>Z7) (λ_ _ _ _ _=>(ZlQ (Zk Zc8 (hr.mono (by decide)) rfl ZA (Za (pv 3) (Za (pv 1) (Za (pv 2) Zc)))) (ZlP (Zk ZeF (hr.mono (by decide)) rfl ZA (Za (pv 4) (Za (pv 5) (Za Ze (Za (pv 0) (Za (pv 1) (Za (pv 2) Zc)))))))))) (ZcM (ZT Zs (ZT Zs (ZT Zs ZcL))))) Zc)))) (Zg (Zx ZbF)) Zu)
   (Zg (Zx (Zh (Ze3 (K:=K) rfl rfl) rfl T.b_all ZhU (Za (Zai ["start","here","there","size"] [none,some 6,some 7,some 4] rfl rfl rfl (ZhW (K:=K) rfl (pv 2)) (λ_ _ _ _ _=>(Zm (i:=0) (show(["start","here","there","size"]:List Str).Nodup from by decide +kernel) rfl (Or.inl rfl))) (λ_ _ _ _ _=>Z7) (λ_ _ _ _ _=>(ZcW op_isN (Zk ZfA (hr.mono (by decide)) rfl ZA (Za (pv 1) (Za (pv 2) (Za Ze (Za (pv 0) (Za (pv 3) Zc)))))) ZlO (Zr _))) Zs) Zc))))))))))),?_⟩
 have eN:(ns.map V.int).length=ns.length:=Yc ..
 have eM:(ms.map V.int).length=ms.length:=Yc ..
 refine ZM (fun σ Hx=>σ=[some (.ref r),some (.ref t),some (.ref s),some (.ref l),none,none,none,none]/\Hx=H) (λR hR=>?_) ?_
 ·walk_at "rd"
  exact⟨r,ns,1,rfl,hS,hn,by decide,by decide,λh1=>hR _ _ ⟨rfl,rfl⟩,λh1=>absurd h1 (by omega)⟩
 rintro σ H' ⟨rfl,rfl⟩
 refine ZM (fun σ Hx=>σ=[some (.ref r),some (.ref t),some (.ref s),some (.ref l),some (.int (ns.length:Nat)),none,none,none]/\Hx=H') (λR hR=>?_) ?_
 ·walk_at "rd"
  exact⟨_,hS,hR _ _ ⟨by rw[eN],rfl⟩⟩
 rintro σ H ⟨rfl,rfl⟩
 refine ZM (fun σ Hx=>∃f:Addr,σ=[some (.ref r),some (.ref t),some (.ref s),some (.ref l),some (.int (ns.length:Nat)),some (.ref f),none,none]/\Hx f=some (.lst ((os.map λo=>o.getD 0 0).map V.int))/\Zf H Hx) (λR hR=>?_) ?_
 ·walk_at "rd"
  refine hO.seq (K:=K) λit ⟨w1,w2,w3⟩=>?_
  refine comp_map (n:=os.length) (λj=>V.int ((os.getD j []).getD 0 0)) (Yp hol (by decide)) (λj Hx s hj=>w1 j Hx s hj) (λHx s=>w2 Hx s) ?_ ?_
  ·rintro j x Hx Hy hj s y
   obtain⟨rfl,a,rfl,ha⟩:=w3 j x Hx Hy hj s y
   have h3:=ho3 _ (YA hj)
   have eo:os.getD j []=os[j]:=by simp[Yj,hj]
   generalize eo':os[j]=o at ha h3
   match o,h3,ha with
   |[x0,x1,x2],_,ha =>
    walk_at "rd"
    exact⟨_,SqT.of ha,rfl,_,_,rfl,_,_,rfl,_,_,rfl,rfl,CW.next hj (by rw[eo,eo'];rfl) s⟩
  ·intro l' Hx s hl'
   refine hR _ _ ⟨l',rfl,?_,s.ZS hl'⟩
   rw[Zb]
   congr 2
   refine List.ext_getElem (by simp) λj j1 j2=>?_
   have:j<os.length:=by simpa using j1
   simp[Yj,this]
 rintro σ H1 ⟨f,rfl,hf,s1⟩
 refine ZM (fun σ Hx=>σ=[some (.ref r),some (.ref t),some (.ref s),some (.ref l),some (.int (ns.length:Nat)),some (.ref f),none,none]/\Once (ms.length+1-ns.length) ss (os.map λo=>o.getD 0 0)/\Zf H Hx) (λR hR=>?_) ?_
 ·walk_at "rd"
  refine⟨l,os,rfl,hO.same s1,hol,λH2 s2=>⟨true,rfl,ZE (λz=>nomatch z) λ_=>?_⟩⟩
  refine⟨_,(s1.trans s2).q hS2,_,(s1.trans s2).q hs,λu hu=>?_⟩
  rw[eM]
  have g:=(Zf.refl H2).upd (o:=.lst (ss.map V.int)) hu
  refine⟨_,u,f,ss,_,rfl,by omega,by omega,Zb,g _ _ (s2 _ _ hf),hsl,by rw[Yc];exact hol,λH3 s3=>⟨_,rfl,?_⟩⟩
  have ek:(((ms.length:Nat):Int)-((ns.length:Nat):Int)+1).toNat=ms.length+1-ns.length:=by omega
  rw[ek]
  have s13:=(s1.trans s2).trans (g.trans s3)
  exact ZE (λz=>k2 false _ ⟨(λy=>nomatch y),λy=>absurd y.1 (of_decide_eq_false z)⟩ s13) λz=>hR _ _ ⟨rfl,YQ (by simpa using z),s13⟩
 clear hf s1 H1
 rintro σ H1 ⟨rfl,hOn,s1⟩
 refine ZM (fun σ Hx=>∃l1:Addr,σ=[some (.ref r),some (.ref t),some (.ref s),some (.ref l),some (.int (ns.length:Nat)),some (.ref f),some (.ref l1),none]/\Rows Hx l1 (ZaK (nth ns) ns.length)/\Zf H Hx) (λR hR=>?_) ?_
 ·walk_at "rd"
  exact⟨r,ns,rfl,s1.q hS,hn,λl1 H2 s2 R2=>hR _ _ ⟨l1,rfl,R2,s1.trans s2⟩⟩
 clear s1 H1
 rintro σ H1 ⟨l1,rfl,R1,s1⟩
 refine ZM (fun σ Hx=>∃l2:Addr,σ=[some (.ref r),some (.ref t),some (.ref s),some (.ref l),some (.int (ns.length:Nat)),some (.ref f),some (.ref l1),some (.ref l2)]/\Rows Hx l1 (ZaK (nth ns) ns.length)/\Rows Hx l2 (ZaK (nth ms) ms.length)/\Zf H Hx) (λR hR=>?_) ?_
 ·walk_at "rd"
  exact⟨t,ms,rfl,s1.q hS2,hm,λl2 H2 s2 R2=>hR _ _ ⟨l2,rfl,R1.same s2,R2,s1.trans s2⟩⟩
 clear s1 R1 H1
 rintro σ H1 ⟨l2,rfl,R1,R2,s1⟩
 have stO:∀o∈os,∃q:Nat,o.getD 0 0=(q:Int)/\q<ms.length+1-ns.length:=λo ho=>by
  have h1:o.getD 0 0∈os.map (λo=>o.getD 0 0):=YB.mpr ⟨o,ho,rfl⟩
  rw[hOn.2]at h1
  obtain⟨q,hq,e⟩:=YB.mp (YL.mp h1).1
  exact⟨q,e.symm,YC.mp hq⟩
 have stS:∀x∈ss,∃q:Nat,x=(q:Int)/\q<ms.length+1-ns.length:=λx hx=>by
  rw[hOn.1]at hx
  obtain⟨q,hq,e⟩:=YB.mp (YL.mp hx).1
  exact⟨q,e.symm,YC.mp hq⟩
 let OkO:List Int->Prop:=λo=>∃s a m:Nat,o=[(s:Int),(a:Int),((a+m:Nat):Int)]/\a+m<ns.length/\(ZC (nth ns) a m:Int)-(a:Nat)≠(ZC (nth ms) (s+a) m:Int)-(s+a:Nat)
 refine ZM (fun σ Hx=>σ=[some (.ref r),some (.ref t),some (.ref s),some (.ref l),some (.int (ns.length:Nat)),some (.ref f),some (.ref l1),some (.ref l2)]/\(∀o∈os,OkO o)/\Zf H1 Hx) (λR hR=>?_) ?_
 ·walk_at "rd"
  refine(hO.same s1).seq (K:=K) λit ⟨w1,w2,w3⟩=>?_
  refine comp_map (n:=os.length) (λj=>V.bl (decide (OkO (os.getD j [])))) (Yp hol (by decide)) (λj Hx s hj=>w1 j Hx s hj) (λHx s=>w2 Hx s) ?_ ?_
  ·rintro j x Hx Hy hj s y
   obtain⟨rfl,a,rfl,ha⟩:=w3 j x Hx Hy hj s y
   have h3:=ho3 _ (YA hj)
   have hst:=stO _ (YA hj)
   have eo:os.getD j []=os[j]:=by simp[Yj,hj]
   generalize eo':os[j]=o at ha h3 hst
   match o,h3,ha,hst with
   |[x0,x1,x2],_,ha,hst =>
    walk_at "rd"
    refine⟨_,SqT.of ha,rfl,_,_,rfl,_,_,rfl,_,_,rfl,rfl,_,_,_,rfl,λhy=>?_,λhn'=>?_⟩
    ·obtain⟨q,hq,hq1⟩:=hst
     obtain rfl:x0=(q:Int):=hq
     obtain⟨a1,rfl⟩:=YO hy.1
     obtain⟨m1,rfl⟩:∃m1:Nat,x2=((a1+m1:Nat):Int):=⟨(x2-a1).toNat,by omega⟩
     refine⟨true,rfl,ZE (λ_=>?_) λz=>absurd rfl z⟩
     refine⟨l1,l2,nth ns,nth ms,ns.length,ms.length,q,a1,m1,rfl,R1.same s,R2.same s,by omega,by omega,hn,hm,CW.next hj ?_ s⟩
     rw[eo,eo']
     refine congrArg V.bl (decide_eq_decide.mpr ⟨λz=>⟨q,a1,m1,rfl,by omega,z⟩,?_⟩)
     rintro⟨s',a',m',e,h1,h2⟩
     simp only[List.cons.injEq,and_true]at e
     have e1:s'=q:=by omega
     have e2:a'=a1:=by omega
     have e3:m'=m1:=by omega
     subst e1 e2 e3
     exact h2
    ·refine⟨false,rfl,ZE (λz=>nomatch z) λ_=>CW.next hj ?_ s⟩
     rw[eo,eo',Yu]
     rintro⟨s',a',m',e,h1,h2⟩
     simp only[List.cons.injEq,and_true]at e
     exact hn' ⟨by omega,by omega,by omega⟩
  ·intro l' Hx s hl'
   have eB:(List.range os.length).map (λj=>V.bl (decide (OkO (os.getD j []))))=(os.map λo=>decide (OkO o)).map V.bl:=by
    refine List.ext_getElem (by simp) λj j1 j2=>?_
    have:j<os.length:=by simpa using j1
    simp[Yj,this]
   rw[eB]
   refine⟨l',rfl,_,SqL.of Zb,ZE (λz=>k2 false _ ⟨(λy=>nomatch y),λy=>?_⟩ (s1.trans (s.ZS hl'))) λz=>hR _ _ ⟨rfl,λo ho=>?_,s.ZS hl'⟩⟩
   ·exfalso
    have:(os.map λo=>decide (OkO o)).all id=true:=by
     rw[List.all_eq_true]
     intro b hb
     obtain⟨o,ho,rfl⟩:=YB.mp hb
     exact Yo (y.2.1 o ho)
    rw[this]at z;cases z
   ·have hz:(os.map λo=>decide (OkO o)).all id=true:=by simpa using z
    have:=List.all_eq_true.mp hz (decide (OkO o)) (YB.mpr ⟨o,ho,rfl⟩)
    exact YQ this
 rintro σ H2 ⟨rfl,hOk,s2⟩
 walk_at "rd"
 refine ZmB ((s1.trans s2).q hs) λit ⟨w1,w2,w3⟩=>?_
 refine comp_map (n:=ss.length) (λj=>V.bl (decide (Zbm (nth ns) (nth ms) 0 (nth ss j).toNat ns.length))) (Yp hsl (by decide)) (λj Hx s hj=>w1 j Hx s hj) (λHx s=>w2 Hx s) ?_ ?_
 ·rintro j x Hx Hy hj s' y
  obtain⟨rfl,rfl⟩:=w3 j x Hx Hy hj s' y
  have eg:nth ss j=ss[j]:=by simp[nth,Yj,hj]
  obtain⟨q,hq,hq1⟩:=stS _ (YA hj)
  rw[hq]
  walk_at "rd"
  have sr:=s2.trans s'
  refine⟨l1,l2,nth ns,nth ms,ns.length,ms.length,0,q,ns.length,rfl,R1.same sr,R2.same sr,by omega,by omega,hn,hm,λhN H3 s3=>CW.next hj ?_ (s'.trans s3),λa m hA u H3 s3 hu=>CW.next hj ?_ (s'.trans s3)⟩
  ·rw[eg,hq,show((q:Nat):Int).toNat=q by omega,Yo hN];rfl
  ·have hNo:¬ Zbm (nth ns) (nth ms) 0 q ns.length:=λz=>hA.2.1 (z m a hA.1)
   rw[eg,hq,show((q:Nat):Int).toNat=q by omega,Yu hNo];rfl
 ·intro l' Hx s' hl'
  have eB:(List.range ss.length).map (λj=>V.bl (decide (Zbm (nth ns) (nth ms) 0 (nth ss j).toNat ns.length)))=(ss.map λx=>decide (Zbm (nth ns) (nth ms) 0 x.toNat ns.length)).map V.bl:=by
   refine List.ext_getElem (by simp) λj j1 j2=>?_
   have:j<ss.length:=by simpa using j1
   simp[nth,Yj,this]
  rw[eB]
  refine⟨l',rfl,_,SqL.of Zb,k2 _ _ ⟨λz=>⟨hOn,hOk,λq hq=>?_⟩,λz=>?_⟩ ((s1.trans s2).trans (s'.ZS hl'))⟩
  ·have:=List.all_eq_true.mp z (decide (Zbm (nth ns) (nth ms) 0 ((q:Nat):Int).toNat ns.length)) (YB.mpr ⟨_,hq,rfl⟩)
   have:=YQ this
   rwa [show((q:Nat):Int).toNat=q by omega]at this
  ·rw[List.all_eq_true]
   intro b hb
   obtain⟨x,hx,rfl⟩:=YB.mp hb
   obtain⟨q,rfl,_⟩:=stS x hx
   exact Yo (by rw[show((q:Nat):Int).toNat=q by omega];exact z.2.2 q hx)
theorem Zg6 {f:Addr}{fd:FuncData} (F:Fun K "is_stretch" "is_stretch" ZaB f fd) (T:Txt K mg):FnOk P w K mg base (CXE P w) 1 f fd ["many","a","b"] (Zcz K mg):=by
 refine F.okX Zg2 (λvs H Q E h=>?_) (λcdv A outer s H vs Q E hr h=>?_)
 ·obtain⟨n,a,b,rfl,_⟩:=h;rfl
 obtain⟨n,a,b,rfl,k1,k2⟩:=h
 refine⟨_,(Zg (Zx (Zk2 Zdz Zdz Zcd Ze (pv 1) (pv 2) (pv 0)))),?_⟩
 walk_at "rd"
 by_cases h0:0<=a
 ·rw[Yd h0]
  by_cases h1:a<=b
  ·rw[Yd h1]
   by_cases h2:b<n
   ·rw[Yo h2];exact k1 ⟨h0,h1,h2⟩
   ·rw[Yu h2];exact k2 (by omega)
  ·rw[Ye h1];exact k2 (by omega)
 ·rw[Ye h0];exact k2 (by omega)
theorem Zg7 {f:Addr}{fd:FuncData} (F:Fun K "_law_rises" "_law_rises" ZaE f fd) (T:Txt K mg):FnOk P w K mg base (CXE P w) 1 f fd ["numbers"] (ZcC K mg):=by
 refine F.okX Zg4 (λvs H Q E h=>?_) (λcdv A outer s H vs Q E hr h=>?_)
 ·obtain⟨r,ns,rfl,_⟩:=h;rfl
 obtain⟨r,ns,rfl,hr1,hn,k1⟩:=h
 refine⟨_,(Zg (Zx (Zh (Ze3 (K:=K) rfl rfl) rfl T.b_all ZhU (Za (Zai ["one","other"] [none,none] rfl rfl rfl (Zjv rfl T.b_zip (Za (pv 0) (Za (ZO Z1 (pv 0) (ZG Ze) Za4) Zc))) (λ_ _ _ _ _=>(Zef (K:=K) (n:=2) rfl rfl (Zt (Zm (i:=0) (show(["one","other"]:List Str).Nodup from by decide +kernel) rfl (Or.inl rfl)) (Zt (Zm (i:=1) (show(["one","other"]:List Str).Nodup from by decide +kernel) rfl (Or.inl rfl)) Zap)))) (λ_ _ _ _ _=>Z7) (λ_ _ _ _ _=>(ZcW Zcd (pv 0) (pv 1) (Zr _))) (ZcM (ZT Zs (ZT Zs ZcL)))) Zc)))),?_⟩
 walk_at "rd"
 refine⟨_,SqL.of hr1,λp hp=>?_⟩
 have u:=(Zf.refl H).upd (o:=.lst (ZbH (ns.map V.int) (some 1) none)) hp
 refine⟨_,SqL.of (u _ _ hr1),_,SqL.of Zb,?_⟩
 have ec:ZbH (ns.map V.int) (some 1) none=(ns.drop 1).map V.int:=by
  have:=ZbO (ns.map V.int) 1
  rw[List.map_drop];exact this
 rw[ec]at u⊢
 have hp1:(upd H p (.lst ((ns.drop 1).map V.int))) p=_:=Zb
 generalize upd H p (.lst ((ns.drop 1).map V.int))=H1 at u hp1⊢
 have hr2:=u _ _ hr1
 refine comp_map (n:=ns.length-1) (λj=>V.bl (decide (nth ns j<nth ns (j+1)))) (Yp (show _<=1000 by omega) (by decide)) (λj Hy s hj=>⟨_,_,_,_,SqL.of (s _ _ hr2),SqL.of (s _ _ hp1),Yb (by simp;omega),Yb (by simp;omega)⟩) (λHy s=>⟨_,_,SqL.of (s _ _ hr2),SqL.of (s _ _ hp1),.inr (by simp)⟩) ?_ ?_
 ·rintro j v Hy Hz hj sy ⟨p',v1,v2,hp',rfl,rfl,w1,w2⟩
  have ex1:=w1 _ (SqL.of (sy _ _ hr2))
  have ex2:=w2 _ (SqL.of (sy _ _ hp1))
  rw[Yt,Yb (show j<ns.length by omega)]at ex1
  rw[Yt,List.getElem?_drop,Yb (show 1+j<ns.length by omega)]at ex2
  cases ex1;cases ex2
  have g:=(Zf.refl Hy).upd (o:=.tup [V.int ns[j],V.int ns[1+j]]) hp'
  have e1:nth ns j=ns[j]:=by simp[nth,Yj,show j<ns.length by omega]
  have e2:nth ns (j+1)=ns[1+j]:=by simp[nth,Yj,show j+1<ns.length by omega,Nat.add_comm]
  walk_at "rd"
  exact⟨_,SqT.of Zb,rfl,_,_,rfl,_,_,rfl,rfl,_,rfl,_,rfl,CW.next hj (by rw[e1,e2]) (sy.trans g)⟩
 ·intro l Hx sx hl
  have el:(List.range (ns.length-1)).map (λj=>V.bl (decide (nth ns j<nth ns (j+1))))=((List.range (ns.length-1)).map λj=>decide (nth ns j<nth ns (j+1))).map V.bl:=by rw[YZ];rfl
  rw[el]
  refine⟨l,rfl,_,SqL.of Zb,k1 _ _ ?_ (u.trans (sx.ZS hl))⟩
  rw[List.all_eq_true]
  constructor
  ·intro h
   have h1:∀j,j+1<ns.length->nth ns j<nth ns (j+1):=λj hj=>YQ (h _ (YB.mpr ⟨j,YC.mpr (by omega),rfl⟩))
   exact Zlk h1
  ·intro h b hb
   obtain⟨j,hj,rfl⟩:=YB.mp hb
   have:=YC.mp hj
   rw[List.pairwise_iff_getElem]at h
   have:=h j (j+1) (by omega) (by omega) (by omega)
   exact Yo (by simpa[nth,Yj,show j+1<ns.length by omega,show j<ns.length by omega]using this)
theorem Zg8 {f:Addr}{fd:FuncData} (F:Fun K "_law_paper" "_law_paper" ZaD f fd) (Zi:Callee P w K mg base "_law_take" 1 ["pot","many"] (ZY K mg)) (Zax:Callee P w K mg base "_law_low" 1 ["row","a","b"] (Zcj K mg)) (T:Txt K mg):FnOk P w K mg base (CXE P w) 2 f fd ["pot","row","text"] (ZcB K mg):=by
 refine F.okX ZJ (λvs H Q E h=>?_) (λcdv A outer s H vs Q E hr h=>?_)
 ·obtain⟨p,r,t,ns,ms,rfl,_⟩:=h;rfl
 obtain⟨p,r,t,ns,ms,rfl,hP,np,tp,hr1,ht1,hn0,hn,hm,k1⟩:=h
 refine⟨_,(Zd (Zp (i:=3) ZJ.nd rfl (Or.inl rfl) (ZX Zc))
   (Zd (Zp (i:=4) ZJ.nd rfl (Or.inl rfl) (ZX Zc))
   (Zd (Zat (ZaG PassesOwn.never rfl (Z4 rfl T.b_range (Za (Zj Zy (Zj ZZ (Zh (Zl (K:=K) rfl) rfl T.b_len Yg (Za (pv 2) Zc)) (Zh (Zl (K:=K) rfl) rfl T.b_len Yg (Za (pv 1) Zc))) Ze) Zc)) (Zm (i:=5) ZJ.nd rfl (Or.inl rfl)) (Zd (Zp (i:=6) ZJ.nd rfl (Or.inl rfl) (ZO Z1 (pv 2) (ZG (pv 5)) (ZG (Zj Zy (pv 5) (Zh (Zl (K:=K) rfl) rfl T.b_len Yg (Za (pv 1) Zc))))))
   (Zd (Zp (i:=7) ZJ.nd rfl (Or.inl rfl) (ZX Zc))
   (Zd (Zat (ZaG PassesOwn.never rfl (Z4 rfl T.b_range (Za (Zh (Zl (K:=K) rfl) rfl T.b_len Yg (Za (pv 1) Zc)) Zc)) (Zm (i:=8) ZJ.nd rfl (Or.inl rfl)) (Zg (Zat (ZaG PassesOwn.never rfl (Zee rfl T.b_range (Za (Zj Zy (pv 8) Ze) (Za (Zh (Zl (K:=K) rfl) rfl T.b_len Yg (Za (pv 1) Zc)) Zc))) (Zm (i:=9) ZJ.nd rfl (Or.inl rfl)) (Zg (ZK (Zo Zgg (Zk Zax (hr.mono (by decide)) rfl ZA (Za (pv 1) (Za (pv 8) (Za (pv 9) Zc)))) (Zk Zax (hr.mono (by decide)) rfl ZA (Za (pv 6) (Za (pv 8) (Za (pv 9) Zc)))) (Zr _)) (Zg (Z6 (Zbl PySem.F.plainAttrs_list PySem.F.slot_list_append PySem.F.type_list_append Zaz (pv 7) (Za (Z0 (Za (pv 8) (Za (pv 9) Zc))) Zc)))) Zu)))))))
   (Zg (ZK (Zo (ZhT (K:=K) rfl hr) (pv 7) (ZX Zc) (Zr _)) (Zg (Z6 (Zbl PySem.F.plainAttrs_list PySem.F.slot_list_append PySem.F.type_list_append Zaz (pv 3) (Za (pv 5) Zc)))) (Zd (Zev (ZD ZL (pv 7) (Zk Zi (hr.mono (by decide)) rfl ZA (Za (pv 0) (Za (Zh (Zl (K:=K) rfl) rfl T.b_len Yg (Za (pv 7) Zc)) Zc))) (λ_ _=>rfl)) (ZcU (n:=2) rfl (Zt (Zm (i:=8) ZJ.nd rfl (Or.inl rfl)) (Zt (Zm (i:=9) ZJ.nd rfl (Or.inl rfl)) Zap))))
   (Zg (Z6 (Zbl PySem.F.plainAttrs_list PySem.F.slot_list_append PySem.F.type_list_append Zaz (pv 4) (Za (Z0 (Za (pv 5) (Za (pv 8) (Za (pv 9) Zc)))) Zc))))))))))))
   (Zg (Zx (Z0 (Za (pv 3) (Za (pv 4) Zc)))))))),?_⟩
 walk_at "rd"
 have eN:(ns.map V.int).length=ns.length:=Yc ..
 have eM:(ms.map V.int).length=ms.length:=Yc ..
 refine⟨Yr _,λu hu=>⟨Yr _,λv hv=>?_⟩⟩
 have s1:=(Zf.refl H).upd (o:=.lst []) hu
 have s2:=(Zf.refl _).upd (o:=.lst []) hv
 have s12:=s1.trans s2
 have zv:=s1.free hv
 have nuv:u≠v:=λz=>by rw[z,Zb]at hv;cases hv
 have npu:p≠u:=λz=>by obtain⟨x,hx,_⟩:=hP;rw[z,hu]at hx;cases hx
 have npv:p≠v:=λz=>by obtain⟨x,hx,_⟩:=hP;rw[z,zv]at hx;cases hx
 refine⟨_,.inl (SqL.of (s12 _ _ ht1)),_,.inl (SqL.of (s12 _ _ hr1)),by rw[eN,eM];omega,by rw[eN,eM];omega,?_⟩
 have en:(((ms.map V.int).length:Int)-((ns.map V.int).length:Int)+1).toNat=ms.length+1-ns.length:=by rw[eN,eM];omega
 rw[en]
 refine Zal (λi σ Hx=>∃v5 v6 v7 v8 v9,σ=[some (.ref p),some (.ref r),some (.ref t),some (.ref u),some (.ref v),v5,v6,v7,v8,v9]/\Zz Hx p/\Exc p H Hx/\Nums Hx u i/\ZcT Hx v i) ⟨none,none,none,none,none,rfl,(hP.ZcP npu.symm).ZcP npv.symm,s12.Zho,⟨[],by rw[Zq nuv,Zb];rfl,Ya _⟩,⟨[],Zb,Ya _,λa h=>by cases h⟩⟩ ?_ ?_
 ·rintro i σ Hx hi ⟨v5,v6,v7,v8,v9,rfl,hPx,ex,hN,hT⟩
  have e0:((0:Int)+(i:Int))=(i:Int):=by omega
  rw[e0]
  have hrx:=ex _ _ np hr1
  have htx:=ex _ _ tp ht1
  walk_at "rd"
  refine⟨_,.inl (SqL.of hrx),_,SqL.of htx,λq hq=>⟨Yr _,λq2 hq2=>?_⟩⟩
  rw[eN,show((i:Int)+(ns.length:Int))=((i+ns.length:Nat):Int) by omega,Zgs ms (by omega) (by omega),show i+ns.length-i=ns.length by omega]at hq2⊢
  have g1:=(Zf.refl Hx).upd (o:=.lst ((Zcb ms i ns.length).map V.int)) hq
  have hq':(upd Hx q (.lst ((Zcb ms i ns.length).map V.int))) q=_:=Zb
  have npq:q≠p:=hPx.ne hq
  have hP1:=hPx.same g1
  generalize upd Hx q (.lst ((Zcb ms i ns.length).map V.int))=H1 at g1 hq' hq2 hP1⊢
  have hr2:=g1 _ _ hrx
  have lc:(Zcb ms i ns.length).length=ns.length:=Zgq (by omega)
  have nq2:q2≠p:=hP1.ne hq2
  have u1:=(Zf.refl H1).upd (o:=.lst []) hq2
  refine⟨_,.inl (SqL.of (u1 _ _ hr2)),by omega,by rw[eN];omega,?_⟩
  rw[show(((ns.map V.int).length:Nat):Int).toNat=ns.length by rw[eN];omega]
  refine Zal (λj σ Hy=>∃v8 v9,σ=[some (.ref p),some (.ref r),some (.ref t),some (.ref u),some (.ref v),some (.int i),some (.ref q),some (.ref q2),v8,v9]/\Prs Hy q2 (40*j)/\Zf H1 Hy) ⟨_,_,rfl,⟨[],Zb,Yr _,λa h=>by cases h⟩,u1⟩ ?_ ?_
  ·rintro j σ Hy hj ⟨v8,v9,rfl,hPr,sy⟩
   have ej:((0:Int)+(j:Int))=(j:Int):=by omega
   rw[ej]
   walk_at "rd"
   refine⟨_,.inl (SqL.of (sy _ _ hr2)),by omega,by omega,by rw[eN];omega,by rw[eN];omega,?_⟩
   rw[eN,show((ns.length:Int)-((j:Int)+1)).toNat=ns.length-(j+1) by omega]
   refine Zal (λk σ Hz=>∃v9,σ=[some (.ref p),some (.ref r),some (.ref t),some (.ref u),some (.ref v),some (.int i),some (.ref q),some (.ref q2),some (.int j),v9]/\Prs Hz q2 (40*j+k)/\Zf H1 Hz) ⟨_,rfl,hPr,sy⟩ ?_ ?_
   ·rintro k σ Hz hk ⟨v9,rfl,⟨as,a1,a2,a3⟩,sz⟩
    have ek:((j:Int)+1+(k:Int))=((j+(k+1):Nat):Int):=by omega
    rw[ek]
    walk_at "rd"
    refine⟨r,ns,j,k+1,rfl,sz _ _ hr2,by omega,by omega,λH2 s2=>⟨q,_,j,k+1,rfl,s2 _ _ (sz _ _ hq'),by rw[lc];omega,by rw[lc];omega,λH3 s3=>?_⟩⟩
    have s23:=s2.trans s3
    refine⟨rfl,ZE (λz=>?_) λz=>?_⟩
    ·refine⟨ZI (s23 _ _ a1),by decide,λw hw=>?_⟩
     have g3:=(Zf.refl H3).upd (o:=.tup [V.int (j:Int),V.int ((j+(k+1):Nat):Int)]) hw
     refine⟨_,g3 _ _ (s23 _ _ a1),Yp (show _<=2000 by rw[Yc];omega) (by decide),⟨as++[w],by rw[Zb,YG];rfl,by simp;omega,λa ha=>?_⟩,((sz.trans (s23.trans g3)).upd hq2)⟩
     rcases Yl.mp ha with ha|ha
     ·obtain⟨x,y,e⟩:=a3 a ha
      have:=g3 _ _ (s23 _ _ e)
      exact⟨x,y,by rw[Zq (λz=>by rw[z,g3 _ _ (s23 _ _ a1)]at this;cases this)];exact this⟩
     ·cases YK.mp ha
      exact⟨_,_,by rw[Zq (λz=>by rw[z,s23 _ _ a1]at hw;cases hw)];exact Zb⟩
    ·exact⟨⟨as,s23 _ _ a1,by omega,λa ha=>by obtain⟨x,y,e⟩:=a3 a ha;exact⟨x,y,s23 _ _ e⟩⟩,sz.trans s23⟩
   ·rintro σ Hz ⟨v9,rfl,⟨as,a1,a2,a3⟩,sz⟩
    exact⟨_,_,rfl,⟨as,a1,by omega,a3⟩,sz⟩
  ·rintro σ Hy ⟨v8,v9,rfl,⟨as,a1,a2,a3⟩,sy⟩
   walk_at "rd"
   obtain⟨ss,n1,n2⟩:=hN
   obtain⟨bs,t1,t2,t3⟩:=hT
   have sxy:=g1.trans sy
   refine⟨Yr _,λw hw=>⟨_,Zlh (((Zf.refl Hy).upd hw) _ _ a1) Zb,?_⟩⟩
   have gw:=(Zf.refl Hy).upd (o:=.lst []) hw
   generalize upd Hy w (.lst [])=Hw at gw⊢
   have sxw:=sxy.trans gw
   have hu1:=sxw _ _ n1
   have hv1:=sxw _ _ t1
   have hPw:=hPx.same sxw
   have exw:=ex.same sxw
   have hT':∀a∈bs,Zf0 Hw a:=λa ha=>(t3 a ha).same sxw
   refine ZE (λz=>?_) λz=>?_
   ·refine⟨ZI hu1,_,hu1,Yp (show _<=1000 by rw[Yc];omega) (by decide),hPw.ZcP npu.symm,exw.ZcP hu,⟨ss++[(i:Int)],by rw[Zb,YG];rfl,by simp;omega⟩,⟨bs,by rw[Zq nuv.symm];exact hv1,by omega,λa ha=>?_⟩⟩
    obtain⟨x,y,c,e⟩:=hT' a ha
    exact⟨x,y,c,by rw[Zq (λz=>by rw[z,hu1]at e;cases e)];exact e⟩
   ·have hne:as≠[]:=λy=>z (Yo (by rw[y];rfl))
    have hl0:0<as.length:=List.length_pos_iff.mpr hne
    refine⟨_,.inl (SqL.of (gw _ _ a1)),p,_,rfl,by simp;omega,by simp;omega,hPw,λd H2 d0 d1 hP2 e2=>?_⟩
    obtain⟨d,rfl⟩:=YO d0
    have hd:d<as.length:=by simpa using d1
    have hq2':=e2 _ _ nq2 (gw _ _ a1)
    obtain⟨x,y,exy⟩:=a3 _ (YA hd)
    have notp:∀a xs,Hw a=some (.tup xs)->a≠p:=λa xs h z=>by obtain⟨c,hc,_⟩:=hPw;rw[z,hc]at h;cases h
    have hxy:=e2 _ _ (notp _ _ (gw _ _ exy)) (gw _ _ exy)
    have hv2:=e2 _ _ npv.symm hv1
    have hu2:=e2 _ _ npu.symm hu1
    refine⟨_,_,rfl,SqL.of hq2',_,Zf9 (v:=V.ref as[d]) (by simp[hd]),_,rfl,_,SqT.of hxy,rfl,_,_,rfl,_,_,rfl,rfl,ZI hv2,by decide,λb hb=>?_⟩
    have g3:=(Zf.refl H2).upd (o:=.tup [V.int (i:Int),V.int x,V.int y]) hb
    have hb1:(upd H2 b (.tup [V.int (i:Int),V.int x,V.int y])) b=_:=Zb
    generalize upd H2 b (.tup [V.int (i:Int),V.int x,V.int y])=H3 at g3 hb1⊢
    have hv3:=g3 _ _ hv2
    refine⟨_,hv3,Yp (show _<=1000 by rw[Yc];omega) (by decide),(hP2.same g3).ZcP npv.symm,((exw.trans e2).same g3).ZcP zv,⟨ss,by rw[Zq nuv];exact g3 _ _ hu2,by omega⟩,⟨bs++[b],by rw[Zb,YG];rfl,by simp;omega,λa ha=>?_⟩⟩
    rcases Yl.mp ha with ha|ha
    ·obtain⟨x,y,c,e⟩:=hT' a ha
     have e':=g3 _ _ (e2 _ _ (notp _ _ e) e)
     exact⟨x,y,c,by rw[Zq (λz=>by rw[z,hv3]at e';cases e')];exact e'⟩
    ·cases YK.mp ha
     exact⟨_,_,_,by rw[Zq (λz=>by rw[z,hv3]at hb1;cases hb1)];exact hb1⟩
 ·rintro σ Hx ⟨v5,v6,v7,v8,v9,rfl,hPx,ex,hN,hT⟩
  walk_at "rd"
  refine⟨by decide,λq hq=>?_⟩
  have g:=(Zf.refl Hx).upd (o:=.tup [V.ref u,V.ref v]) hq
  obtain⟨ss,n1,n2⟩:=hN
  obtain⟨bs,t1,t2,t3⟩:=hT
  exact k1 q u v _ (hPx.same g) (ex.same g) npu.symm npv.symm Zb ⟨ss,g _ _ n1,by omega⟩ ⟨bs,g _ _ t1,by omega,λa ha=>(t3 a ha).same g⟩
theorem Zel {f:Addr}{fd:FuncData} (F:Fun K "_law_from_behind" "_law_from_behind" ZQ f fd) (T:Txt K mg):FnOk P w K mg base (CXE P w) 1 f fd ["starts","others","way","at","spot","sizes"] (ZaH K mg):=by
 refine F.okX ZF (λvs H Q E h=>?_) (λcdv A outer s H vs Q E hr h=>?_)
 ·obtain⟨s,l,z,way,at',spot,n,m,k,k',rfl,_⟩:=h;rfl
 obtain⟨s,l,z,way,at',spot,n,m,k,k',rfl,ha0,hs0,hz,hN,hT,hk,hk2,k1⟩:=h
 refine⟨_,(Zd (ZK (PW.pt (Zdv (Zo ZaV (pv 2) Ze (Zr _)) (Zcc (Zo Zcd (pv 3) (Zh (Zl (K:=K) rfl) rfl T.b_len Yg (Za (pv 0) Zc)) (Zr _))))) (Zg (Zp (i:=0) ZF.nd rfl (Or.inl rfl) (Zj Za5 (Zj Za5 (ZX (Za (Zj ZZ (ZD ZL (pv 0) (pv 3) (λ_ _=>rfl)) (ZD Z3 (pv 5) Ze (λ_ _=>rfl))) Zc)) (ZO Z1 (pv 0) Za4 (ZG (pv 3)))) (ZO Z1 (pv 0) (ZG (Zj Zy (pv 3) Ze)) Za4)))) Zu)
   (Zd (ZK (PW.pt (Zdv (Zo Zis (pv 2) Ze (Zr _)) (Zcc (Zo Zcd (pv 4) (Zh (Zl (K:=K) rfl) rfl T.b_len Yg (Za (pv 1) Zc)) (Zr _))))) (Zd (Zev (ZD ZL (pv 1) (pv 4) (λ_ _=>rfl)) (ZcU (n:=3) rfl (Zt (Zm (i:=6) ZF.nd rfl (Or.inl rfl)) (Zt (Zm (i:=7) ZF.nd rfl (Or.inl rfl)) (Zt (Zm (i:=8) ZF.nd rfl (Or.inl rfl)) Zap)))))
   (Zg (ZK (Zo ZaV (pv 2) Ze (Zr _)) (Zg (Zp (i:=1) ZF.nd rfl (Or.inl rfl) (Zj Za5 (Zj Za5 (ZX (Za (Z0 (Za (Zj ZZ (pv 6) (ZD Z3 (pv 5) Ze (λ_ _=>rfl))) (Za (pv 7) (Za (pv 8) Zc)))) Zc)) (ZO Z1 (pv 1) Za4 (ZG (pv 4)))) (ZO Z1 (pv 1) (ZG (Zj Zy (pv 4) Ze)) Za4)))) (Zg (Zp (i:=1) ZF.nd rfl (Or.inl rfl) (Zj Za5 (Zj Za5 (ZO Z1 (pv 1) Za4 (ZG (pv 4))) (ZX (Za (Z0 (Za (pv 6) (Za (Zj ZZ (pv 7) (ZD Z3 (pv 5) Ze (λ_ _=>rfl))) (Za (Zj ZZ (pv 8) (ZD Z3 (pv 5) Ze (λ_ _=>rfl))) Zc)))) Zc))) (ZO Z1 (pv 1) (ZG (Zj Zy (pv 4) Ze)) Za4))))))) Zu)
   (Zg (Zx (Z0 (Za (pv 0) (Za (pv 1) Zc))))))),?_⟩
 refine ZM (fun σ Hx=>∃s',σ=[some (.ref s'),some (.ref l),some (.int way),some (.int at'),some (.int spot),some (.ref z),none,none,none]/\(s'=s\/H s'=none)/\Nums Hx s' (k+1)/\Zf H Hx) (λR hR=>?_) ?_
 ·walk_at "rd"
  obtain⟨ss,f1,f2⟩:=hN
  have skip:=hR _ _ ⟨s,rfl,.inl rfl,⟨ss,f1,by omega⟩,Zf.refl H⟩
  refine ZE (λw=>?_) λw=>skip
  refine⟨_,.inl (SqL.of f1),ZE (λy=>?_) λy=>skip⟩
  obtain⟨at',rfl⟩:=YO ha0
  have hl:at'<ss.length:=by simpa using y
  refine⟨_,SqL.of f1,_,Zby hl,_,SqT.of hz,_,rfl,_,rfl,_,rfl,by decide,λq1 hq1=>?_⟩
  have t1:=(Zf.refl H).upd (o:=.lst [V.int (nth ss at'-m)]) hq1
  have m1:(upd H q1 (.lst [V.int (nth ss at'-m)])) q1=_:=Zb
  generalize upd H q1 (.lst [V.int (nth ss at'-m)])=H1 at t1 m1⊢
  refine⟨_,SqL.of (t1 _ _ f1),λq2 hq2=>?_⟩
  rw[Zgn]
  have t2:=(Zf.refl H1).upd (o:=.lst ((ss.map V.int).take at')) hq2
  have m2:(upd H1 q2 (.lst ((ss.map V.int).take at'))) q2=_:=Zb
  generalize upd H1 q2 (.lst ((ss.map V.int).take at'))=H2 at t2 m2⊢
  have hl2:((ss.map V.int).take at').length<=1000:=by simp;omega
  refine⟨_,t2 _ _ m1,_,m2,Yh (show _<=2000 by simp;omega) (by decide),λq3 hq3=>?_⟩
  have t3:=(Zf.refl H2).upd (o:=.lst ([V.int (nth ss at'-m)]++(ss.map V.int).take at')) hq3
  have m3:(upd H2 q3 (.lst ([V.int (nth ss at'-m)]++(ss.map V.int).take at'))) q3=_:=Zb
  generalize upd H2 q3 (.lst ([V.int (nth ss at'-m)]++(ss.map V.int).take at'))=H3 at t3 m3⊢
  have t13:=t1.trans (t2.trans t3)
  refine⟨_,SqL.of (t13 _ _ f1),λq4 hq4=>?_⟩
  rw[show((at':Int)+1)=((at'+1:Nat):Int) by omega,ZbO]
  have t4:=(Zf.refl H3).upd (o:=.lst ((ss.map V.int).drop (at'+1))) hq4
  have m4:(upd H3 q4 (.lst ((ss.map V.int).drop (at'+1)))) q4=_:=Zb
  generalize upd H3 q4 (.lst ((ss.map V.int).drop (at'+1)))=H4 at t4 m4⊢
  refine⟨_,t4 _ _ m3,_,m4,Yh (show _<=4000 by simp;omega) (by decide),λq5 hq5=>hR _ _ ⟨q5,rfl,.inr ((t13.trans t4).free hq5),⟨(nth ss at'-m)::ss.take at'++ss.drop (at'+1),?_,?_⟩,(t13.trans t4).ZS hq5⟩⟩
  ·rw[Zb];simp
  ·simp;omega
 rintro σ H1 ⟨s',rfl,hs',hN1,s1⟩
 refine ZM (fun σ Hx=>∃l' v6 v7 v8,σ=[some (.ref s'),some (.ref l'),some (.int way),some (.int at'),some (.int spot),some (.ref z),v6,v7,v8]/\(l'=l\/H l'=none)/\Nums Hx s' (k+1)/\ZcT Hx l' (k'+1)/\Zf H Hx) (λR hR=>?_) ?_
 ·walk_at "rd"
  obtain⟨as,g1,g2,g3⟩:=hT
  have skip:∀v6 v7 v8,R [some (.ref s'),some (.ref l),some (.int way),some (.int at'),some (.int spot),some (.ref z),v6,v7,v8] H1:=λv6 v7 v8=>hR _ _ ⟨l,v6,v7,v8,rfl,.inl rfl,hN1,⟨as,s1 _ _ g1,by omega,λa ha=>(g3 a ha).same s1⟩,s1⟩
  refine ZE (λw=>?_) λw=>skip _ _ _
  refine⟨_,.inl (SqL.of (s1 _ _ g1)),ZE (λy=>?_) λy=>skip _ _ _⟩
  obtain⟨spot,rfl⟩:=YO hs0
  have hl:spot<as.length:=by simpa using y
  obtain⟨x1,y1,z1,hx1⟩:=(g3 _ (YA hl)).same s1
  refine⟨_,SqL.of (s1 _ _ g1),_,Zf9 (v:=V.ref as[spot]) (by simp[hl]),_,rfl,_,SqT.of hx1,rfl,_,_,rfl,_,_,rfl,_,_,rfl,rfl,ZE (λw13=>?_) λw13=>?_⟩
  ·refine⟨_,SqT.of (s1 _ _ hz),_,rfl,_,rfl,_,rfl,by decide,λq1 hq1=>?_⟩
   rw[show((spot:Int)+1)=((spot+1:Nat):Int) by omega]
   have t1:=(Zf.refl H1).upd (o:=.tup [V.int (x1-m),V.int y1,V.int z1]) hq1
   have m1:(upd H1 q1 (.tup [V.int (x1-m),V.int y1,V.int z1])) q1=_:=Zb
   generalize upd H1 q1 (.tup [V.int (x1-m),V.int y1,V.int z1])=H3 at t1 m1⊢
   refine⟨by decide,λq2 hq2=>?_⟩
   have t2:=(Zf.refl H3).upd (o:=.lst [V.ref q1]) hq2
   have m2:(upd H3 q2 (.lst [V.ref q1])) q2=_:=Zb
   generalize upd H3 q2 (.lst [V.ref q1])=H4 at t2 m2⊢
   have ga:=(t1.trans t2) _ _ (s1 _ _ g1)
   refine⟨_,SqL.of ga,λq3 hq3=>?_⟩
   rw[Zgn]
   have t3:=(Zf.refl H4).upd (o:=.lst ((as.map V.ref).take spot)) hq3
   have m3:(upd H4 q3 (.lst ((as.map V.ref).take spot))) q3=_:=Zb
   generalize upd H4 q3 (.lst ((as.map V.ref).take spot))=H5 at t3 m3⊢
   refine⟨_,t3 _ _ m2,_,m3,Yh (show _<=4000 by simp;omega) (by decide),λq4 hq4=>?_⟩
   have t4:=(Zf.refl H5).upd (o:=.lst ([V.ref q1]++(as.map V.ref).take spot)) hq4
   have m4:(upd H5 q4 (.lst ([V.ref q1]++(as.map V.ref).take spot))) q4=_:=Zb
   generalize upd H5 q4 (.lst ([V.ref q1]++(as.map V.ref).take spot))=H6 at t4 m4⊢
   refine⟨_,SqL.of (t4 _ _ (t3 _ _ ga)),λq5 hq5=>?_⟩
   rw[ZbO]
   have t5:=(Zf.refl H6).upd (o:=.lst ((as.map V.ref).drop (spot+1))) hq5
   have m5:(upd H6 q5 (.lst ((as.map V.ref).drop (spot+1)))) q5=_:=Zb
   generalize upd H6 q5 (.lst ((as.map V.ref).drop (spot+1)))=H7 at t5 m5⊢
   have tA:=t1.trans (t2.trans (t3.trans (t4.trans t5)))
   refine⟨_,t5 _ _ m4,_,m5,Yh (show _<=4000 by simp;omega) (by decide),λq6 hq6=>?_⟩
   have t6:=(Zf.refl H7).upd (o:=.lst ([V.ref q1]++(as.map V.ref).take spot++(as.map V.ref).drop (spot+1))) hq6
   obtain⟨ns,n1,n2⟩:=hN1
   refine hR _ _ ⟨q6,_,_,_,rfl,.inr ((s1.trans tA).free hq6),⟨ns,t6 _ _ (tA _ _ n1),n2⟩,⟨q1::as.take spot++as.drop (spot+1),?_,?_,λa ha=>?_⟩,s1.trans (tA.trans t6)⟩
   ·rw[Zb];simp
   ·simp;omega
   ·rcases Yl.mp ha with ha|ha
    ·rcases Yk.mp ha with rfl|ha
     ·exact⟨_,_,_,t6 _ _ (t5 _ _ (t4 _ _ (t3 _ _ (t2 _ _ m1))))⟩
     ·exact(g3 a (List.mem_of_mem_take ha)).same (s1.trans (tA.trans t6))
    ·exact(g3 a (List.mem_of_mem_drop ha)).same (s1.trans (tA.trans t6))
  ·refine⟨_,SqL.of (s1 _ _ g1),λq1 hq1=>?_⟩
   rw[show((spot:Int)+1)=((spot+1:Nat):Int) by omega,Zgn]
   have t1:=(Zf.refl H1).upd (o:=.lst ((as.map V.ref).take spot)) hq1
   have m1:(upd H1 q1 (.lst ((as.map V.ref).take spot))) q1=_:=Zb
   generalize upd H1 q1 (.lst ((as.map V.ref).take spot))=H3 at t1 m1⊢
   refine⟨_,SqT.of (t1 _ _ (s1 _ _ hz)),_,rfl,_,rfl,_,rfl,_,SqT.of (t1 _ _ (s1 _ _ hz)),_,rfl,_,rfl,_,rfl,by decide,λq2 hq2=>?_⟩
   have t2:=(Zf.refl H3).upd (o:=.tup [V.int x1,V.int (y1-n),V.int (z1-n)]) hq2
   have m2:(upd H3 q2 (.tup [V.int x1,V.int (y1-n),V.int (z1-n)])) q2=_:=Zb
   generalize upd H3 q2 (.tup [V.int x1,V.int (y1-n),V.int (z1-n)])=H4 at t2 m2⊢
   refine⟨by decide,λq3 hq3=>?_⟩
   have t3:=(Zf.refl H4).upd (o:=.lst [V.ref q2]) hq3
   have m3:(upd H4 q3 (.lst [V.ref q2])) q3=_:=Zb
   generalize upd H4 q3 (.lst [V.ref q2])=H5 at t3 m3⊢
   refine⟨_,t3 _ _ (t2 _ _ m1),_,m3,Yh (show _<=4000 by simp;omega) (by decide),λq4 hq4=>?_⟩
   have t4:=(Zf.refl H5).upd (o:=.lst ((as.map V.ref).take spot++[V.ref q2])) hq4
   have m4:(upd H5 q4 (.lst ((as.map V.ref).take spot++[V.ref q2]))) q4=_:=Zb
   generalize upd H5 q4 (.lst ((as.map V.ref).take spot++[V.ref q2]))=H6 at t4 m4⊢
   have ga:=(t1.trans (t2.trans (t3.trans t4))) _ _ (s1 _ _ g1)
   refine⟨_,SqL.of ga,λq5 hq5=>?_⟩
   rw[ZbO]
   have t5:=(Zf.refl H6).upd (o:=.lst ((as.map V.ref).drop (spot+1))) hq5
   have m5:(upd H6 q5 (.lst ((as.map V.ref).drop (spot+1)))) q5=_:=Zb
   generalize upd H6 q5 (.lst ((as.map V.ref).drop (spot+1)))=H7 at t5 m5⊢
   have tA:=t1.trans (t2.trans (t3.trans (t4.trans t5)))
   refine⟨_,t5 _ _ m4,_,m5,Yh (show _<=4000 by simp;omega) (by decide),λq6 hq6=>?_⟩
   have t6:=(Zf.refl H7).upd (o:=.lst ((as.map V.ref).take spot++[V.ref q2]++(as.map V.ref).drop (spot+1))) hq6
   obtain⟨ns,n1,n2⟩:=hN1
   refine hR _ _ ⟨q6,_,_,_,rfl,.inr ((s1.trans tA).free hq6),⟨ns,t6 _ _ (tA _ _ n1),n2⟩,⟨as.take spot++[q2]++as.drop (spot+1),?_,?_,λa ha=>?_⟩,s1.trans (tA.trans t6)⟩
   ·rw[Zb];simp
   ·simp;omega
   ·rcases Yl.mp ha with ha|ha
    ·rcases Yl.mp ha with ha|ha
     ·exact(g3 a (List.mem_of_mem_take ha)).same (s1.trans (tA.trans t6))
     ·cases YK.mp ha
      exact⟨_,_,_,t6 _ _ (t5 _ _ (t4 _ _ (t3 _ _ m2)))⟩
    ·exact(g3 a (List.mem_of_mem_drop ha)).same (s1.trans (tA.trans t6))
 rintro σ H2 ⟨l',v6,v7,v8,rfl,hl',hN2,hT2,s2⟩
 walk_at "rd"
 refine⟨by decide,λq hq=>?_⟩
 have g:=(Zf.refl H2).upd (o:=.tup [V.ref s',V.ref l']) hq
 obtain⟨ss,f1,f2⟩:=hN2
 obtain⟨as,g1,g2,g3⟩:=hT2
 exact k1 q s' l' _ (s2.trans g) hs' hl' Zb ⟨ss,g _ _ f1,f2⟩ ⟨as,g _ _ g1,g2,λa ha=>(g3 a ha).same g⟩
theorem ZgC {f:Addr}{fd:FuncData} (F:Fun K "_law_spoilt" "_law_spoilt" Zao f fd) (Zi:Callee P w K mg base "_law_take" 1 ["pot","many"] (ZY K mg)) (ZaR:Callee P w K mg base "_law_from_behind" 1 ["starts","others","way","at","spot","sizes"] (ZaH K mg)) (T:Txt K mg):FnOk P w K mg base (CXE P w) 2 f fd ["pot","row","text","starts","others"] (ZbV K mg):=by
 refine F.okX Zw (λvs H Q E h=>?_) (λcdv A outer s H vs Q E hr h=>?_)
 ·obtain⟨p,r,t,s,l,ns,ms,k,k',rfl,_⟩:=h;rfl
 obtain⟨p,r,t,s,l,ns,ms,k,k',rfl,hP,np,tp,sp,lp,hr1,ht1,hn0,hn,hm,hN,hT,hk,hk2,k1⟩:=h
 refine⟨_,(Zd (Zp (i:=3) Zw.nd rfl (Or.inl rfl) (ZP (ZaN (K:=K) rfl) rfl T.b_list Zce (Za (pv 3) Zc)))
   (Zd (Zp (i:=4) Zw.nd rfl (Or.inl rfl) (ZP (ZaN (K:=K) rfl) rfl T.b_list Zce (Za (pv 4) Zc)))
   (Zd (Zp (i:=5) Zw.nd rfl (Or.inl rfl) (Zk Zi (hr.mono (by decide)) rfl ZA (Za (pv 0) (Za Ze Zc))))
   (Zd (Zp (i:=6) Zw.nd rfl (Or.inl rfl) (Zk Zi (hr.mono (by decide)) rfl ZA (Za (pv 0) (Za (Zj Zy (Zh (Zl (K:=K) rfl) rfl T.b_len Yg (Za (pv 3) Zc)) Ze) Zc))))
   (Zd (Zp (i:=7) Zw.nd rfl (Or.inl rfl) (Zk Zi (hr.mono (by decide)) rfl ZA (Za (pv 0) (Za (Zj Zy (Zh (Zl (K:=K) rfl) rfl T.b_len Yg (Za (pv 4) Zc)) Ze) Zc))))
   (Zd (Zp (i:=8) Zw.nd rfl (Or.inl rfl) (ZD Z3 (Z0 (Za (Zk Zi (hr.mono (by decide)) rfl ZA (Za (pv 0) (Za Ze Zc))) (Za (Zj9 ZhG Ze) (Za (Zj Zcw Ze Ze) (Za (Zj9 ZhG (Zj Zcw Ze Ze)) Zc))))) (Zk Zi (hr.mono (by decide)) rfl ZA (Za (pv 0) (Za Ze Zc))) (λ_ _=>rfl)))
   (Zd (ZK (PW.pt (Zdv (Zo ZaV (pv 5) Ze (Zr _)) (Zcc (Zo Zcd (pv 6) (Zh (Zl (K:=K) rfl) rfl T.b_len Yg (Za (pv 3) Zc)) (Zr _))))) (Zg (Z6 (Zbl PySem.F.plainAttrs_list PySem.F.slot_list_pop PySem.F.type_list_pop Zgh (pv 3) (Za (pv 6) Zc)))) Zu)
   (Zd (ZK (Zo ZaV (pv 5) Ze (Zr _)) (Zg (Z6 (Zbl PySem.F.plainAttrs_list PySem.F.slot_list_insert PySem.F.type_list_insert Zfs (pv 3) (Za (pv 6) (Za (pv 8) Zc))))) Zu)
   (Zd (ZK (PW.pt (Zdv (Zo ZaV (pv 5) Ze (Zr _)) (Zcc (Zo Zcd (pv 6) (Zh (Zl (K:=K) rfl) rfl T.b_len Yg (Za (pv 3) Zc)) (Zr _))))) (Zg (Zp (i:=4) Zw.nd rfl (Or.inl rfl) (Zh (Zh2 (K:=K) rfl) rfl T.b_sorted Zhw (Za (Zj Za5 (pv 4) (ZX (Za (Z0 (Za (Zbl PySem.F.plainAttrs_list PySem.F.slot_list_pop PySem.F.type_list_pop Zgh (pv 3) (Za (pv 6) Zc)) (Za Ze (Za (Zj ZZ (Zh (Zl (K:=K) rfl) rfl T.b_len Yg (Za (pv 1) Zc)) Ze) Zc)))) Zc))) Zc)))) Zu)
   (Zd (ZK (PW.pt (Zdv (Zo ZaV (pv 5) Ze (Zr _)) (Zcc (Zo Zcd (pv 7) (Zh (Zl (K:=K) rfl) rfl T.b_len Yg (Za (pv 4) Zc)) (Zr _))))) (Zg (Zp (i:=3) Zw.nd rfl (Or.inl rfl) (Zh (ZiN (K:=K) rfl) rfl T.b_sorted Zhw (Za (Zj Za5 (pv 3) (ZX (Za (ZD Z3 (Zbl PySem.F.plainAttrs_list PySem.F.slot_list_pop PySem.F.type_list_pop Zgh (pv 4) (Za (pv 7) Zc)) Ze (λ_ _=>rfl)) Zc))) Zc)))) Zu)
   (Zd (ZK (Zo ZaV (pv 5) Ze (Zr _)) (Zg (Z6 (Zl1 PySem.F.plainAttrs_list PySem.F.slot_list_reverse PySem.F.type_list_reverse Zgi (pv 3)))) Zu)
   (Zd (ZK (Zo ZaV (pv 5) Ze (Zr _)) (Zg (Z6 (Zl1 PySem.F.plainAttrs_list PySem.F.slot_list_reverse PySem.F.type_list_reverse Zgi (pv 4)))) Zu)
   (Zd (ZK (PW.pt (Zdv (Zo ZaV (pv 5) Ze (Zr _)) (Zcc (Zo Zcd (pv 7) (Zh (Zl (K:=K) rfl) rfl T.b_len Yg (Za (pv 4) Zc)) (Zr _))))) (Zg (Z6 (Zbl PySem.F.plainAttrs_list PySem.F.slot_list_insert PySem.F.type_list_insert Zfs (pv 4) (Za (pv 7) (Za (ZD ZL (pv 4) (pv 7) (λ_ _=>rfl)) Zc))))) Zu)
   (Zd (ZK (Zo Zis (pv 5) Ze (Zr _)) (Zg (Zx (Zk ZaR (hr.mono (by decide)) rfl ZA (Za (pv 3) (Za (pv 4) (Za (pv 5) (Za (pv 6) (Za (pv 7) (Za (Z0 (Za (Zh (Zl (K:=K) rfl) rfl T.b_len Yg (Za (pv 1) Zc)) (Za (Zh (Zl (K:=K) rfl) rfl T.b_len Yg (Za (pv 2) Zc)) Zc))) Zc))))))))) Zu)
   (Zd (ZK (PW.pt (Zdv (Zo Zis (pv 5) Ze (Zr _)) (Zcc (Zo Zcd (pv 7) (Zh (Zl (K:=K) rfl) rfl T.b_len Yg (Za (pv 4) Zc)) (Zr _))))) (Zd (Zev (ZD ZL (pv 4) (pv 7) (λ_ _=>rfl)) (ZcU (n:=3) rfl (Zt (Zm (i:=9) Zw.nd rfl (Or.inl rfl)) (Zt (Zm (i:=10) Zw.nd rfl (Or.inl rfl)) (Zt (Zm (i:=11) Zw.nd rfl (Or.inl rfl)) Zap)))))
   (Zd (Zev (ZD Z3 (Z0 (Za (Z0 (Za (pv 10) (Za (Zh (ZkJ rfl) rfl T.b_min Zmb (Za (Zj Zy (pv 10) Ze) (Za (pv 11) Zc))) Zc))) (Za (Z0 (Za (pv 11) (Za (pv 10) Zc))) (Za (Z0 (Za (pv 10) (Za (pv 8) Zc))) (Za (Z0 (Za (Zk Zi (hr.mono (by decide)) rfl ZA (Za (pv 0) (Za (Zh (Zl (K:=K) rfl) rfl T.b_len Yg (Za (pv 1) Zc)) Zc))) (Za (pv 11) Zc))) Zc))))) (Zj ZZ (pv 5) Ze) (λ_ _=>rfl)) (ZcU (n:=2) rfl (Zt (Zm (i:=10) Zw.nd rfl (Or.inl rfl)) (Zt (Zm (i:=11) Zw.nd rfl (Or.inl rfl)) Zap))))
   (Zg (Zev (Z0 (Za (pv 9) (Za (pv 10) (Za (pv 11) Zc)))) (Zjp (pv 4) (pv 7) set_list (λ_=>rfl)))))) Zu)
   (Zg (Zx (Z0 (Za (pv 3) (Za (pv 4) Zc)))))))))))))))))))),?_⟩
 refine ZM (fun σ Hx=>∃u,σ=[some (.ref p),some (.ref r),some (.ref t),some (.ref u),some (.ref l),none,none,none,none,none,none,none]/\H u=none/\Nums Hx u k/\Zf H Hx) (λR hR=>?_) ?_
 ·walk_at "rd"
  obtain⟨ss,e1,e2⟩:=hN
  exact⟨_,.inl (SqL.of e1),λu hu=>hR _ _ ⟨u,rfl,hu,⟨ss,Zb,e2⟩,(Zf.refl H).upd hu⟩⟩
 rintro σ H1 ⟨u,rfl,hu,hN1,s1⟩
 refine ZM (fun σ Hx=>∃v,σ=[some (.ref p),some (.ref r),some (.ref t),some (.ref u),some (.ref v),none,none,none,none,none,none,none]/\SpI H p u v k k' Hx) (λR hR=>?_) ?_
 ·walk_at "rd"
  obtain⟨as,e1,e2,e3⟩:=hT
  obtain⟨ss,f1,f2⟩:=hN1
  refine⟨_,.inl (SqL.of (s1 _ _ e1)),λv hv=>hR _ _ ⟨v,rfl,?_⟩⟩
  have s2:=s1.ZS (o:=.lst (as.map V.ref)) hv
  exact⟨hP,hu,s1.free hv,(λz=>by rw[z,hv]at f1;cases f1),hP.same s2,s2.Zho,⟨ss,((Zf.refl H1).upd hv) _ _ f1,f2⟩,⟨as,Zb,e2,λa ha=>(e3 a ha).same s2⟩⟩
 clear s1 hN1
 rintro σ H1 ⟨v,rfl,I⟩
 refine ZM (fun σ Hx=>∃way,σ=[some (.ref p),some (.ref r),some (.ref t),some (.ref u),some (.ref v),some (.int way),none,none,none,none,none,none]/\0<=way/\way<15/\SpI H p u v k k' Hx) (λR hR=>?_) ?_
 ·walk_at "rd"
  exact⟨p,15,rfl,by decide,by decide,I.2.2.2.2.1,λd H' d0 d1 hP' e'=>hR _ _ ⟨d,rfl,d0,d1,I.exc e' hP'⟩⟩
 clear I
 rintro σ H2 ⟨way,rfl,w0,w1,I⟩
 refine ZM (fun σ Hx=>∃at':Nat,σ=[some (.ref p),some (.ref r),some (.ref t),some (.ref u),some (.ref v),some (.int way),some (.int at'),none,none,none,none,none]/\at'<=k/\SpI H p u v k k' Hx) (λR hR=>?_) ?_
 ·walk_at "rd"
  obtain⟨ss,f1,f2⟩:=I.2.2.2.2.2.2.1
  refine⟨_,.inl (SqL.of f1),p,_,rfl,by simp<;>omega,by simp;omega,I.2.2.2.2.1,λd H' d0 d1 hP' e'=>?_⟩
  obtain⟨d,rfl⟩:=YO d0
  exact hR _ _ ⟨d,rfl,by simp at d1;omega,I.exc e' hP'⟩
 clear I
 rintro σ H3 ⟨at',rfl,a1,I⟩
 refine ZM (fun σ Hx=>∃spot:Nat,σ=[some (.ref p),some (.ref r),some (.ref t),some (.ref u),some (.ref v),some (.int way),some (.int at'),some (.int spot),none,none,none,none]/\spot<=k'/\SpI H p u v k k' Hx) (λR hR=>?_) ?_
 ·walk_at "rd"
  obtain⟨ss,f1,f2,f3⟩:=I.2.2.2.2.2.2.2
  refine⟨_,.inl (SqL.of f1),p,_,rfl,by simp<;>omega,by simp;omega,I.2.2.2.2.1,λd H' d0 d1 hP' e'=>?_⟩
  obtain⟨d,rfl⟩:=YO d0
  exact hR _ _ ⟨d,rfl,by simp at d1;omega,I.exc e' hP'⟩
 clear I
 rintro σ H4 ⟨spot,rfl,b1,I⟩
 refine ZM (fun σ Hx=>∃far:Int,σ=[some (.ref p),some (.ref r),some (.ref t),some (.ref u),some (.ref v),some (.int way),some (.int at'),some (.int spot),some (.int far),none,none,none]/\SpI H p u v k k' Hx) (λR hR=>?_) ?_
 ·walk_at "rd"
  refine⟨p,41,rfl,by decide,by decide,I.2.2.2.2.1,λd H' d0 d1 hP' e'=>⟨⟨by decide,by decide,by decide⟩,⟨by decide,by decide,by decide⟩,by decide,λq hq=>?_⟩⟩
  have I1:=I.exc e' hP'
  have g:=(Zf.refl H').upd (o:=.tup [V.int d,V.int (-1),V.int (10 ^ Int.toNat 59),V.int (-10 ^ Int.toNat 59)]) hq
  have hq1:(upd H' q (.tup [V.int d,V.int (-1),V.int (10 ^ Int.toNat 59),V.int (-10 ^ Int.toNat 59)])) q=_:=Zb
  generalize upd H' q (.tup [V.int d,V.int (-1),V.int (10 ^ Int.toNat 59),V.int (-10 ^ Int.toNat 59)])=H5 at g hq1⊢
  have I2:=I1.same g
  refine⟨p,4,rfl,by decide,by decide,I2.2.2.2.2.1,λc H6 c0 c1 hP6 e6=>?_⟩
  have hq2:=e6 _ _ (λz=>by obtain⟨x,hx,_⟩:=I2.2.2.2.2.1;rw[z,hx]at hq1;cases hq1) hq1
  obtain⟨w,ew,f,rfl⟩:=Ze2 (xs:=[V.int d,V.int (-1),V.int (10 ^ Int.toNat 59),V.int (-10 ^ Int.toNat 59)]) (λx=>∃f:Int,x=V.int f) c0 c1 (λx hx=>by
   simp only[Yk,List.not_mem_nil,or_false]at hx
   rcases hx with rfl|rfl|rfl|rfl<;>exact⟨_,rfl⟩)
  exact⟨_,_,rfl,SqT.of hq2,_,ew,hR _ _ ⟨f,rfl,I2.exc e6 hP6⟩⟩
 clear I
 rintro σ Hx ⟨far,rfl,I⟩
 replace I:=I.mono (m:=k+Zn way 0) (m':=k'+Zn way 0) (by omega) (by omega)
 refine ZM (fun σ Hx=>∃u v,σ=[some (.ref p),some (.ref r),some (.ref t),some (.ref u),some (.ref v),some (.int way),some (.int at'),some (.int spot),some (.int far),none,none,none]/\SpI H p u v (k+Zn way 1) (k'+Zn way 1) Hx) (λR hR=>?_) ?_
 ·walk_at "rd"
  obtain⟨ss,f1,f2⟩:=I.2.2.2.2.2.2.1
  obtain⟨as,g1,g2,g3⟩:=I.2.2.2.2.2.2.2
  refine ZE (λz=>?_) λz=>hR _ _ ⟨u,v,rfl,I.mono (by have:Zn way 0<=Zn way 1:=Zv way 0;omega) (by have:Zn way 0<=Zn way 1:=Zv way 0;omega)⟩
  obtain⟨sb0,sb1⟩:Zn way 0=0/\Zn way 1=1:=ZbW (c:=0) z
  refine⟨_,.inl (SqL.of f1),ZE (λy=>?_) λy=>hR _ _ ⟨u,v,rfl,I.mono (by have:Zn way 0<=Zn way 1:=Zv way 0;omega) (by have:Zn way 0<=Zn way 1:=Zv way 0;omega)⟩⟩
  have hl:at'<ss.length:=by simpa using y
  refine⟨ZI f1,_,f1,by omega,by omega,_,Zms (by simpa using hl),_,Yb (by simpa using hl),hR _ _ ⟨u,v,rfl,?_⟩⟩
  exact(I.setU (m:=k+Zn way 1) _ (Zei _ _ _) (by have:=ZgA ss at';omega)).mono (Ya _) (by omega)
 clear I
 rintro σ Hx ⟨u,v,rfl,I⟩
 refine ZM (fun σ Hx=>∃u v,σ=[some (.ref p),some (.ref r),some (.ref t),some (.ref u),some (.ref v),some (.int way),some (.int at'),some (.int spot),some (.int far),none,none,none]/\SpI H p u v (k+Zn way 2) (k'+Zn way 2) Hx) (λR hR=>?_) ?_
 ·walk_at "rd"
  obtain⟨ss,f1,f2⟩:=I.2.2.2.2.2.2.1
  obtain⟨as,g1,g2,g3⟩:=I.2.2.2.2.2.2.2
  refine ZE (λz=>?_) λz=>hR _ _ ⟨u,v,rfl,I.mono (by have:Zn way 1<=Zn way 2:=Zv way 1;omega) (by have:Zn way 1<=Zn way 2:=Zv way 1;omega)⟩
  obtain⟨sb0,sb1⟩:Zn way 1=0/\Zn way 2=1:=ZbW (c:=1) z
  refine⟨ZI f1,_,f1,by omega,by omega,Yp (show _<=1000 by rw[Yc];omega) (by decide),hR _ _ ⟨u,v,rfl,?_⟩⟩
  exact(I.setU (m:=k+Zn way 2) _ ZiT (by rw[ZkF];omega)).mono (Ya _) (by omega)
 clear I
 rintro σ Hx ⟨u,v,rfl,I⟩
 refine ZM (fun σ Hx=>∃u v,σ=[some (.ref p),some (.ref r),some (.ref t),some (.ref u),some (.ref v),some (.int way),some (.int at'),some (.int spot),some (.int far),none,none,none]/\SpI H p u v (k+Zn way 3) (k'+Zn way 3) Hx) (λR hR=>?_) ?_
 ·walk_at "rd"
  obtain⟨ss,f1,f2⟩:=I.2.2.2.2.2.2.1
  obtain⟨as,g1,g2,g3⟩:=I.2.2.2.2.2.2.2
  refine ZE (λz=>?_) λz=>hR _ _ ⟨u,v,rfl,I.mono (by have:Zn way 2<=Zn way 3:=Zv way 2;omega) (by have:Zn way 2<=Zn way 3:=Zv way 2;omega)⟩
  obtain⟨sb0,sb1⟩:Zn way 2=0/\Zn way 3=1:=ZbW (c:=2) z
  refine⟨_,.inl (SqL.of f1),ZE (λy=>?_) λy=>hR _ _ ⟨u,v,rfl,I.mono (by have:Zn way 2<=Zn way 3:=Zv way 2;omega) (by have:Zn way 2<=Zn way 3:=Zv way 2;omega)⟩⟩
  have hl:at'<ss.length:=by simpa using y
  have hru:=I.2.2.2.2.2.1 _ _ np hr1
  refine⟨ZI f1,_,f1,by omega,by omega,_,Zms (by simpa using hl),_,Yb (by simpa using hl),?_⟩
  have I1:=I.setU (m:=k) (ss.eraseIdx at') (Zei _ _ _) (by have:=ZgA ss at';omega)
  generalize upd Hx u (.lst ((ss.map V.int).eraseIdx at'))=Hy at I1⊢
  have hr2:=I1.2.2.2.2.2.1 _ _ np hr1
  obtain⟨as',i1,i2,i3⟩:=I1.2.2.2.2.2.2.2
  refine⟨_,.inl (SqL.of hr2),by decide,λq hq=>⟨by decide,λq2 hq2=>?_⟩⟩
  rw[List.getElem_map]at hq2⊢
  have g1:=(Zf.refl Hy).upd (o:=.tup [V.int ss[at'],V.int 0,V.int (((ns.map V.int).length:Int)-1)]) hq
  have hq1:(upd Hy q (.tup [V.int ss[at'],V.int 0,V.int (((ns.map V.int).length:Int)-1)])) q=_:=Zb
  generalize upd Hy q (.tup [V.int ss[at'],V.int 0,V.int (((ns.map V.int).length:Int)-1)])=H6 at g1 hq1 hq2⊢
  have g2:=(Zf.refl H6).upd (o:=.lst [V.ref q]) hq2
  have hq3:(upd H6 q2 (.lst [V.ref q])) q2=_:=Zb
  generalize upd H6 q2 (.lst [V.ref q])=H7 at g2 hq3⊢
  have g12:=g1.trans g2
  refine⟨_,g12 _ _ i1,_,hq3,Yh (show _<=1000 by simp;omega) (by decide),λq4 hq4=>?_⟩
  rw[show as'.map V.ref++[V.ref q]=(as'++[q]).map V.ref by simp]
  have g4:=(Zf.refl H7).upd (o:=.lst ((as'++[q]).map V.ref)) hq4
  have hq5:(upd H7 q4 (.lst ((as'++[q]).map V.ref))) q4=_:=Zb
  generalize upd H7 q4 (.lst ((as'++[q]).map V.ref))=H8 at g4 hq5⊢
  have gA:=g12.trans g4
  have hT8:ZcT H8 q4 (k'+1):=⟨as'++[q],hq5,by simp;omega,λa ha=>by
   rcases Yl.mp ha with ha|ha
   ·exact(i3 a ha).same gA
   ·cases YK.mp ha;exact⟨_,_,_,(g2.trans g4) _ _ hq1⟩⟩
  obtain⟨os,o1,o2,o3⟩:=hT8.tups
  refine⟨os,o1,(λr hr=>by have:=o3 r hr;intro z;rw[z]at this;cases this),by omega,λrs' l' H9 hp hl' s9 hT9=>hR _ _ ⟨u,l',rfl,?_⟩⟩
  have hp3:∀o∈rs',o.length=3:=λo ho=>o3 o (hp.mem_iff.mp ho)
  obtain⟨as9,j1,j2,j3⟩:=ZjQ hT9 hp3
  have:=hp.length_eq
  exact(I1.newV (m:=k'+Zn way 3) as9 (gA.trans s9) (gA.free hl') j1 (by omega) j3).mono (by omega) (Ya _)
 clear I
 rintro σ Hx ⟨u,v,rfl,I⟩
 refine ZM (fun σ Hx=>∃u v,σ=[some (.ref p),some (.ref r),some (.ref t),some (.ref u),some (.ref v),some (.int way),some (.int at'),some (.int spot),some (.int far),none,none,none]/\SpI H p u v (k+Zn way 4) (k'+Zn way 4) Hx) (λR hR=>?_) ?_
 ·walk_at "rd"
  obtain⟨ss,f1,f2⟩:=I.2.2.2.2.2.2.1
  obtain⟨as,g1,g2,g3⟩:=I.2.2.2.2.2.2.2
  refine ZE (λz=>?_) λz=>hR _ _ ⟨u,v,rfl,I.mono (by have:Zn way 3<=Zn way 4:=Zv way 3;omega) (by have:Zn way 3<=Zn way 4:=Zv way 3;omega)⟩
  obtain⟨sb0,sb1⟩:Zn way 3=0/\Zn way 4=1:=ZbW (c:=3) z
  refine⟨_,.inl (SqL.of g1),ZE (λy=>?_) λy=>hR _ _ ⟨u,v,rfl,I.mono (by have:Zn way 3<=Zn way 4:=Zv way 3;omega) (by have:Zn way 3<=Zn way 4:=Zv way 3;omega)⟩⟩
  have hl:spot<as.length:=by simpa using y
  refine⟨ZI g1,_,g1,by omega,by omega,_,Zms (by simpa using hl),_,Yb (by simpa using hl),?_⟩
  rw[List.getElem_map]
  obtain⟨x1,y1,z1,hx1⟩:=g3 _ (YA hl)
  have I1:=I.setV (m:=k') (as.eraseIdx spot) (Zei _ _ _) (by have:=ZgA as spot;omega) (λa ha=>g3 a (List.mem_of_mem_eraseIdx ha))
  have hx2:(upd Hx v (.lst ((as.map V.ref).eraseIdx spot))) as[spot]=some (.tup [.int x1,.int y1,.int z1]):=by rw[Zq (λz=>by rw[z,g1]at hx1;cases hx1)];exact hx1
  generalize upd Hx v (.lst ((as.map V.ref).eraseIdx spot))=Hy at I1 hx2⊢
  obtain⟨ss',i1,i2⟩:=I1.2.2.2.2.2.2.1
  refine⟨_,rfl,_,SqT.of hx2,_,rfl,by decide,λq hq=>?_⟩
  have s1:=(Zf.refl Hy).upd (o:=.lst [V.int x1]) hq
  refine⟨_,s1 _ _ i1,_,Zb,Yh (show _<=1000 by simp;omega) (by decide),λq2 hq2=>?_⟩
  have e:ss'.map V.int++[V.int x1]=(ss'++[x1]).map V.int:=by simp
  rw[e]
  have s2:=s1.ZS (o:=.lst ((ss'++[x1]).map V.int)) hq2
  refine⟨_,SqL.of Zb,by simp;omega,λns' l' hp _ hl'=>hR _ _ ⟨l',v,rfl,?_⟩⟩
  have:=hp.length_eq
  exact(I1.newU (m:=k+Zn way 4) ns' (s2.ZS hl') (s2.free hl') Zb (by simp at this;omega)).mono (Ya _) (by omega)
 clear I
 rintro σ Hx ⟨u,v,rfl,I⟩
 refine ZM (fun σ Hx=>∃u v,σ=[some (.ref p),some (.ref r),some (.ref t),some (.ref u),some (.ref v),some (.int way),some (.int at'),some (.int spot),some (.int far),none,none,none]/\SpI H p u v (k+Zn way 5) (k'+Zn way 5) Hx) (λR hR=>?_) ?_
 ·walk_at "rd"
  obtain⟨ss,f1,f2⟩:=I.2.2.2.2.2.2.1
  obtain⟨as,g1,g2,g3⟩:=I.2.2.2.2.2.2.2
  refine ZE (λz=>?_) λz=>hR _ _ ⟨u,v,rfl,I.mono (by have:Zn way 4<=Zn way 5:=Zv way 4;omega) (by have:Zn way 4<=Zn way 5:=Zv way 4;omega)⟩
  obtain⟨sb0,sb1⟩:Zn way 4=0/\Zn way 5=1:=ZbW (c:=4) z
  exact⟨ZI f1,_,f1,hR _ _ ⟨u,v,rfl,(I.setU (m:=k+Zn way 5) ss.reverse (List.map_reverse ..).symm (by simp;omega)).mono (Ya _) (by omega)⟩⟩
 clear I
 rintro σ Hx ⟨u,v,rfl,I⟩
 refine ZM (fun σ Hx=>∃u v,σ=[some (.ref p),some (.ref r),some (.ref t),some (.ref u),some (.ref v),some (.int way),some (.int at'),some (.int spot),some (.int far),none,none,none]/\SpI H p u v (k+Zn way 6) (k'+Zn way 6) Hx) (λR hR=>?_) ?_
 ·walk_at "rd"
  obtain⟨ss,f1,f2⟩:=I.2.2.2.2.2.2.1
  obtain⟨as,g1,g2,g3⟩:=I.2.2.2.2.2.2.2
  refine ZE (λz=>?_) λz=>hR _ _ ⟨u,v,rfl,I.mono (by have:Zn way 5<=Zn way 6:=Zv way 5;omega) (by have:Zn way 5<=Zn way 6:=Zv way 5;omega)⟩
  obtain⟨sb0,sb1⟩:Zn way 5=0/\Zn way 6=1:=ZbW (c:=5) z
  exact⟨ZI g1,_,g1,hR _ _ ⟨u,v,rfl,(I.setV (m:=k'+Zn way 6) as.reverse (List.map_reverse ..).symm (by simp;omega) (λa ha=>g3 a (by simpa using ha))).mono (by omega) (Ya _)⟩⟩
 clear I
 rintro σ Hx ⟨u,v,rfl,I⟩
 refine ZM (fun σ Hx=>∃u v,σ=[some (.ref p),some (.ref r),some (.ref t),some (.ref u),some (.ref v),some (.int way),some (.int at'),some (.int spot),some (.int far),none,none,none]/\SpI H p u v (k+Zn way 7) (k'+Zn way 7) Hx) (λR hR=>?_) ?_
 ·walk_at "rd"
  obtain⟨ss,f1,f2⟩:=I.2.2.2.2.2.2.1
  obtain⟨as,g1,g2,g3⟩:=I.2.2.2.2.2.2.2
  refine ZE (λz=>?_) λz=>hR _ _ ⟨u,v,rfl,I.mono (by have:Zn way 6<=Zn way 7:=Zv way 6;omega) (by have:Zn way 6<=Zn way 7:=Zv way 6;omega)⟩
  obtain⟨sb0,sb1⟩:Zn way 6=0/\Zn way 7=1:=ZbW (c:=6) z
  refine⟨_,.inl (SqL.of g1),ZE (λy=>?_) λy=>hR _ _ ⟨u,v,rfl,I.mono (by have:Zn way 6<=Zn way 7:=Zv way 6;omega) (by have:Zn way 6<=Zn way 7:=Zv way 6;omega)⟩⟩
  have hl:spot<as.length:=by simpa using y
  refine⟨ZI g1,_,SqL.of g1,_,Zf9 (v:=V.ref as[spot]) (by simp[hl]),_,g1,by omega,by omega,Yp (show _<=1000 by rw[Yc];omega) (by decide),hR _ _ ⟨u,v,rfl,?_⟩⟩
  refine(I.setV (m:=k'+Zn way 7) _ ZiU (by rw[ZkF];omega) (λa ha=>?_)).mono (by omega) (Ya _)
  rcases Yl.mp ha with ha|ha
  ·exact g3 a (List.mem_of_mem_take ha)
  ·rcases Yk.mp ha with rfl|ha
   ·exact g3 _ (YA hl)
   ·exact g3 a (List.mem_of_mem_drop ha)
 clear I
 rintro σ Hx ⟨u,v,rfl,I⟩
 have b7:=ZmC way 7
 refine ZM (fun σ Hy=>σ=[some (.ref p),some (.ref r),some (.ref t),some (.ref u),some (.ref v),some (.int way),some (.int at'),some (.int spot),some (.int far),none,none,none]/\SpI H p u v (k+Zn way 7) (k'+Zn way 7) Hy/\way<=11) (λR hR=>?_) ?_
 ·walk_at "rd"
  refine ZE (λz=>?_) λz=>hR _ _ ⟨rfl,I,by omega⟩
  obtain⟨ss,f1,f2⟩:=I.2.2.2.2.2.2.1
  obtain⟨as,g1,g2,g3⟩:=I.2.2.2.2.2.2.2
  have b0:Zn way 7=0:=Yd (by omega)
  have hru:=I.2.2.2.2.2.1 _ _ np hr1
  have htu:=I.2.2.2.2.2.1 _ _ tp ht1
  refine⟨_,.inl (SqL.of hru),_,.inl (SqL.of htu),by decide,λq hq=>?_⟩
  have g:=(Zf.refl Hx).upd (o:=.tup [V.int ((ns.map V.int).length:Nat),V.int ((ms.map V.int).length:Nat)]) hq
  have I1:=I.same g
  refine⟨u,v,q,way,at',spot,_,_,k,k',rfl,by omega,by omega,Zb,by have:=I1.2.2.2.2.2.2.1;rw[b0]at this;exact this,by have:=I1.2.2.2.2.2.2.2;rw[b0]at this;exact this,by omega,by omega,λq' s' l' H' sH h1 h2 h3 h4 h5=>?_⟩
  have I2:=I1.same sH
  have e1:H s'=none:=by
   rcases h1 with rfl|h1
   ·exact I.2.1
   ·exact I1.2.2.2.2.2.1.free (I1.2.2.2.2.1.ne h1) h1
  have e2:H l'=none:=by
   rcases h2 with rfl|h2
   ·exact I.2.2.1
   ·exact I1.2.2.2.2.2.1.free (I1.2.2.2.2.1.ne h2) h2
  exact k1 q' s' l' H' I2.2.2.2.2.1 I2.2.2.2.2.2.1 e1 e2 h3 h4 h5
 clear I
 rintro σ Hx ⟨rfl,I,w2⟩
 refine ZM (fun σ Hy=>∃v9 v10 v11,σ=[some (.ref p),some (.ref r),some (.ref t),some (.ref u),some (.ref v),some (.int way),some (.int at'),some (.int spot),some (.int far),v9,v10,v11]/\SpI H p u v (k+Zn way 7) (k'+Zn way 7) Hy) (λR hR=>?_) ?_
 ·walk_at "rd"
  refine ZE (λz=>?_) λz=>hR _ _ ⟨_,_,_,rfl,I⟩
  obtain⟨as,g1,g2,g3⟩:=I.2.2.2.2.2.2.2
  refine⟨_,.inl (SqL.of g1),ZE (λy=>?_) λy=>hR _ _ ⟨_,_,_,rfl,I⟩⟩
  have hl:spot<as.length:=by simpa using y
  obtain⟨x1,y1,z1,hx1⟩:=g3 _ (YA hl)
  refine⟨_,SqL.of g1,_,Zf9 (v:=V.ref as[spot]) (by simp[hl]),_,rfl,_,SqT.of hx1,rfl,_,_,rfl,_,_,rfl,_,_,rfl,rfl,_,rfl,_,rfl,by decide,λq1 hq1=>⟨by decide,λq2 hq2=>⟨by decide,λq3 hq3=>?_⟩⟩⟩
  have t1:=(Zf.refl Hx).upd (o:=.tup [V.int y1,V.int (if z1<y1+1 then z1 else y1+1)]) hq1
  have t2:=(Zf.refl _).upd (o:=.tup [V.int z1,V.int y1]) hq2
  have t3:=(Zf.refl _).upd (o:=.tup [V.int y1,V.int far]) hq3
  have m3:(upd (upd (upd Hx q1 (.tup [V.int y1,V.int (if z1<y1+1 then z1 else y1+1)])) q2 (.tup [V.int z1,V.int y1])) q3 (.tup [V.int y1,V.int far])) q3=_:=Zb
  have m2:=t3 q2 _ Zb
  have m1:=t3 _ _ (t2 q1 _ Zb)
  have tt:=t1.trans (t2.trans t3)
  generalize upd (upd (upd Hx q1 (.tup [V.int y1,V.int (if z1<y1+1 then z1 else y1+1)])) q2 (.tup [V.int z1,V.int y1])) q3 (.tup [V.int y1,V.int far])=Hy at tt m1 m2 m3⊢
  clear t1 t2 t3
  have I1:=I.same tt
  refine⟨_,.inl (SqL.of (I1.2.2.2.2.2.1 _ _ np hr1)),p,_,rfl,by simp;omega,by simp;omega,I1.2.2.2.2.1,λd H6 d0 d1 hP6 e6=>⟨by decide,λq4 hq4=>?_⟩⟩
  have I2:=I1.exc e6 hP6
  have notp:∀a xs,Hy a=some (.tup xs)->a≠p:=λa xs h z=>by obtain⟨c,hc,_⟩:=I1.2.2.2.2.1;rw[z,hc]at h;cases h
  replace m1:=e6 _ _ (notp _ _ m1) m1
  replace m2:=e6 _ _ (notp _ _ m2) m2
  replace m3:=e6 _ _ (notp _ _ m3) m3
  have t4:=(Zf.refl H6).upd (o:=.tup [V.int d,V.int z1]) hq4
  have m4:(upd H6 q4 (.tup [V.int d,V.int z1])) q4=_:=Zb
  generalize upd H6 q4 (.tup [V.int d,V.int z1])=H7 at t4 m4⊢
  replace m1:=t4 _ _ m1
  replace m2:=t4 _ _ m2
  replace m3:=t4 _ _ m3
  have I3:=I2.same t4
  refine⟨by decide,λq5 hq5=>?_⟩
  have t5:=(Zf.refl H7).upd (o:=.tup [V.ref q1,V.ref q2,V.ref q3,V.ref q4]) hq5
  have m5:(upd H7 q5 (.tup [V.ref q1,V.ref q2,V.ref q3,V.ref q4])) q5=_:=Zb
  generalize upd H7 q5 (.tup [V.ref q1,V.ref q2,V.ref q3,V.ref q4])=H8 at t5 m5⊢
  replace m1:=t5 _ _ m1
  replace m2:=t5 _ _ m2
  replace m3:=t5 _ _ m3
  replace m4:=t5 _ _ m4
  have I4:=I3.same t5
  obtain⟨w9,e9,a9,rfl,x9,y9,h9⟩:=Ze2 (xs:=[V.ref q1,V.ref q2,V.ref q3,V.ref q4]) (i:=way-8) (λx=>∃a,x=V.ref a/\∃x y,H8 a=some (.tup [V.int x,V.int y])) (by omega) (by simp;omega) (λx hx=>by
   simp only[Yk,List.not_mem_nil,or_false]at hx
   rcases hx with rfl|rfl|rfl|rfl
   ·exact⟨_,rfl,_,_,m1⟩
   ·exact⟨_,rfl,_,_,m2⟩
   ·exact⟨_,rfl,_,_,m3⟩
   ·exact⟨_,rfl,_,_,m4⟩)
  refine⟨_,SqT.of m5,_,e9,_,rfl,_,SqT.of h9,rfl,_,_,rfl,_,_,rfl,rfl,by decide,λq6 hq6=>?_⟩
  have t6:=(Zf.refl H8).upd (o:=.tup [V.int x1,V.int x9,V.int y9]) hq6
  have m6:(upd H8 q6 (.tup [V.int x1,V.int x9,V.int y9])) q6=_:=Zb
  generalize upd H8 q6 (.tup [V.int x1,V.int x9,V.int y9])=H9 at t6 m6⊢
  have I5:=I4.same t6
  have gv:=t6 _ _ (t5 _ _ (t4 _ _ (e6 _ _ (I1.1.ne I1.2.2.1) (tt _ _ g1))))
  refine⟨_,gv,_,Zks (by simpa using hl),hR _ _ ⟨_,_,_,rfl,?_⟩⟩
  refine I5.setV (as.set spot q6) (by rw[List.map_set]) (by simp;omega) (λa ha=>?_)
  rcases List.mem_or_eq_of_mem_set ha with ha|rfl
  ·obtain⟨c,hc,_⟩:=I1.2.2.2.2.1
   exact(((g3 a ha).same tt).keep hc e6).same (t4.trans (t5.trans t6))
  ·exact⟨_,_,_,m6⟩
 clear I
 rintro σ Hx ⟨v9,v10,v11,rfl,I⟩
 walk_at "rd"
 refine⟨by decide,λq hq=>?_⟩
 have g:=(Zf.refl Hx).upd (o:=.tup [V.ref u,V.ref v]) hq
 have I2:=(I.same g).mono (m:=k+1) (m':=k'+1) (by omega) (by omega)
 exact k1 q u v _ I2.2.2.2.2.1 I2.2.2.2.2.2.1 I2.2.1 I2.2.2.1 Zb I2.2.2.2.2.2.2.1 I2.2.2.2.2.2.2.2
theorem Zi2 {f:Addr}{fd:FuncData} (F:Fun K "_law_due" "_law_due" Zbr f fd) (ZeG:Callee P w K mg base "_law_kin" 1 ["one","other"] (ZdG K mg)) (Zax:Callee P w K mg base "_law_low" 1 ["row","a","b"] (Zcj K mg)) (ZbJ:Callee P w K mg base "_law_rises" 1 ["numbers"] (ZcC K mg)) (T:Txt K mg):FnOk P w K mg base (CXE P w) 2 f fd ["row","text","starts","others"] (ZdI K mg):=by
 refine F.okX Za3 (λvs H Q E h=>?_) (λcdv A outer s H vs Q E hr h=>?_)
 ·obtain⟨r,t,s,l,ns,ms,ss,os,rfl,_⟩:=h;rfl
 obtain⟨r,t,s,l,ns,ms,ss,os,rfl,hr1,ht1,hs1,hO,ho3,hn0,hn,hm,hsl,hol,k1⟩:=h
 refine⟨_,(Zd (Za9 (i:=4) ["one"] [none] Za3.nd rfl (Or.inl rfl) rfl rfl rfl (Zbt (pv 3)) (λ_ _ _ _ _=>(Zm (i:=0) (show(["one"]:List Str).Nodup from by decide +kernel) rfl (Or.inl rfl))) (λ_ _ _ _ _=>Z7) (λ_ _ _ _ _=>(ZD (r:=rIxT K) Z3 (pv 0) Ze (λ_ _=>rfl))) Zs)
   (Zd (ZK (PW.pt (Zgc (Zcv (Zeu (Zk ZbJ (hr.mono (by decide)) rfl ZA (Za (pv 2) Zc)))) (Zgc (Zcv (Zeu (Zk ZbJ (hr.mono (by decide)) rfl ZA (Za (pv 4) Zc)))) (Zfo (Zo Zcd (Zh ZiQ rfl T.b_len Yg (Za (ZP (Zlj (K:=K) rfl rfl) rfl T.b_set bt_set (Za (Zj Za5 (pv 2) (pv 4)) Zc)) Zc)) (Zh (Zl (K:=K) rfl) rfl T.b_len Yg (Za (Zj Za5 (pv 2) (pv 4)) Zc)) (Zr _)))))) (Zg (Zx ZbF)) Zu)
   (Zd (ZK (Zo Zgg (Zh (Zl (K:=K) rfl) rfl T.b_len Yg (Za (Zj Za5 (pv 2) (pv 4)) Zc)) (Zh (ZkI rfl) rfl T.b_max bt_max (Za Ze (Za (Zj Zy (Zj ZZ (Zh (Zl (K:=K) rfl) rfl T.b_len Yg (Za (pv 1) Zc)) (Zh (Zl (K:=K) rfl) rfl T.b_len Yg (Za (pv 0) Zc))) Ze) Zc))) (Zr _)) (Zg (Zx ZbF)) Zu)
   (Zd (Zat (ZaG PassesOwn.never rfl (Zbt (pv 2)) (Zm (i:=5) Za3.nd rfl (Or.inl rfl)) (Zg (ZK (PW.pt (Zgc (Zcv (Zit Zdz Zdz Ze (pv 5) (Zj ZZ (Zh (Zl (K:=K) rfl) rfl T.b_len Yg (Za (pv 1) Zc)) (Zh (Zl (K:=K) rfl) rfl T.b_len Yg (Za (pv 0) Zc))))) (Zfo (Zcv (Zeu (Zk ZeG (hr.mono (by decide)) rfl ZA (Za (pv 0) (Za (ZO Z1 (pv 1) (ZG (pv 5)) (ZG (Zj Zy (pv 5) (Zh (Zl (K:=K) rfl) rfl T.b_len Yg (Za (pv 0) Zc))))) Zc)))))))) (Zg (Zx ZbF)) Zu))))
   (Zd (Zat (ZaG PassesOwn.never rfl (Zbt (pv 3)) (ZcU (n:=3) rfl (Zt (Zm (i:=5) Za3.nd rfl (Or.inl rfl)) (Zt (Zm (i:=6) Za3.nd rfl (Or.inl rfl)) (Zt (Zm (i:=7) Za3.nd rfl (Or.inl rfl)) Zap)))) (Zd (ZK (PW.pt (Zgc (Zcv (Zit Zdz Zdz Ze (pv 5) (Zj ZZ (Zh (Zl (K:=K) rfl) rfl T.b_len Yg (Za (pv 1) Zc)) (Zh (Zl (K:=K) rfl) rfl T.b_len Yg (Za (pv 0) Zc))))) (Zfo (Zcv (Zk3 Zdz Zdz Zcd Ze (pv 6) (pv 7) (Zh (Zl (K:=K) rfl) rfl T.b_len Yg (Za (pv 0) Zc))))))) (Zg (Zx ZbF)) Zu)
   (Zg (ZK (Zo ZaV (Zk Zax (hr.mono (by decide)) rfl ZA (Za (pv 0) (Za (pv 6) (Za (pv 7) Zc)))) (Zk Zax (hr.mono (by decide)) rfl ZA (Za (ZO Z1 (pv 1) (ZG (pv 5)) (ZG (Zj Zy (pv 5) (Zh (Zl (K:=K) rfl) rfl T.b_len Yg (Za (pv 0) Zc))))) (Za (pv 6) (Za (pv 7) Zc)))) (Zr _)) (Zg (Zx ZbF)) Zu)))))
   (Zg (Zx ZbF))))))),?_⟩
 have eN:(ns.map V.int).length=ns.length:=Yc ..
 have eM:(ms.map V.int).length=ms.length:=Yc ..
 refine ZM (fun σ Hx=>∃b:Addr,σ=[some (.ref r),some (.ref t),some (.ref s),some (.ref l),some (.ref b),none,none,none]/\Hx b=some (.lst ((os.map λo=>o.getD 0 0).map V.int))/\Zf H Hx) (λR hR=>?_) ?_
 ·walk_at "rd"
  obtain⟨w1,w2,w3⟩:=hO.walk (K:=K)
  refine⟨hO.sq,?_⟩
  refine comp_map (n:=os.length) (λj=>V.int ((os.getD j []).getD 0 0)) (Yp (show _<=1000 by omega) (by decide)) (λj Hx s hj=>w1 j Hx s hj) (λHx s=>w2 Hx s) ?_ ?_
  ·rintro j x Hx Hy hj s y
   obtain⟨rfl,a,rfl,ha⟩:=w3 j x Hx Hy hj s y
   have h3:=ho3 _ (YA hj)
   have eo:os.getD j []=os[j]:=by simp[Yj,hj]
   generalize eo':os[j]=o at ha h3
   match o,h3,ha with
   |[x0,x1,x2],_,ha =>
    walk_at "rd"
    exact⟨_,SqT.of ha,_,rfl,CW.next hj (by rw[eo,eo'];rfl) s⟩
  ·intro l' Hx s hl'
   refine hR _ _ ⟨l',rfl,?_,s.ZS hl'⟩
   rw[Zb]
   congr 2
   refine List.ext_getElem (by simp) λj j1 j2=>?_
   have:j<os.length:=by simpa using j1
   simp[Yj,this]
 rintro σ H1 ⟨b,rfl,hb,s1⟩
 have lB:(os.map λo=>o.getD 0 0).length=os.length:=Yc ..
 generalize eB:(os.map λo=>o.getD 0 0)=bs at hb lB
 have hJ:Zh3 ns ms ss os->(ss.Pairwise (· < ·)/\bs.Pairwise (· < ·)/\(ss++bs).Nodup/\(ss++bs).length=ms.length+1-ns.length/\∀x∈ss++bs,0<=x/\x<(ms.length+1-ns.length:Nat)):=λh=>by
  have:=ZiW.mp h.1
  rw[eB]at this;exact this
 have no:∀{Hx:Hp},Zf H Hx->¬ Zh3 ns ms ss os->Q (.bl false) Hx:=λsx h=>k1 false _ ⟨λz=>(by cases z),λz=>absurd z h⟩ sx
 refine ZM (fun σ Hx=>σ=[some (.ref r),some (.ref t),some (.ref s),some (.ref l),some (.ref b),none,none,none]/\ss.Pairwise (· < ·)/\bs.Pairwise (· < ·)/\(ss++bs).Nodup/\Zf H1 Hx) (λR hR=>?_) ?_
 ·walk_at "rd"
  refine⟨s,ss,rfl,s1 _ _ hs1,by omega,λb1 H2 e1 s2=>⟨_,rfl,ZE (λz=>no (s1.trans s2) λy=>by have:=e1.mpr (hJ y).1;rw[this]at z;cases z) λz=>?_⟩⟩
  have p1:=e1.mp (by simpa using z)
  refine⟨b,bs,rfl,s2 _ _ hb,by omega,λb2 H3 e2 s3=>⟨_,rfl,ZE (λz=>no (s1.trans (s2.trans s3)) λy=>by have:=e2.mpr (hJ y).2.1;rw[this]at z;cases z) λz=>?_⟩⟩
  have p2:=e2.mp (by simpa using z)
  have s23:=s2.trans s3
  have hs3:=(s1.trans s23) _ _ hs1
  have hb3:=s23 _ _ hb
  refine⟨_,hs3,_,hb3,Yh (show _<=2000 by simp;omega) (by decide),λq1 hq1=>?_⟩
  rw[<-YG]
  have t1:=(Zf.refl H3).upd (o:=.lst ((ss++bs).map V.int)) hq1
  have m1:(upd H3 q1 (.lst ((ss++bs).map V.int))) q1=_:=Zb
  generalize upd H3 q1 (.lst ((ss++bs).map V.int))=H4 at t1 m1⊢
  refine⟨_,SqL.of m1,by simp;omega,λq2 hq2=>⟨_,Zb,?_⟩⟩
  have t2:=(Zf.refl H4).upd (o:=.ext (Zli q2 (Zc1 (ss++bs)))) hq2
  generalize upd H4 q2 (.ext (Zli q2 (Zc1 (ss++bs))))=H5 at t2⊢
  have t12:=t1.trans t2
  refine⟨_,t12 _ _ hs3,_,t12 _ _ hb3,Yh (show _<=2000 by simp;omega) (by decide),λq3 hq3=>?_⟩
  rw[<-YG]
  have t3:=t12.ZS (o:=.lst ((ss++bs).map V.int)) hq3
  have tA:=s23.trans t3
  have lu:=ZjN (ss++bs)
  refine⟨_,.inl (SqL.of Zb),ZE (λz=>no (s1.trans tA) λy=>?_) λz=>hR _ _ ⟨rfl,p1,p2,?_,tA⟩⟩
  ·have:=ZfJ.mpr (hJ y).2.2.1
   rw[this,Yc]at z;omega
  ·rw[Yc]at z
   exact ZfJ.mp (by omega)
 rintro σ H2 ⟨rfl,p1,p2,p3,s2⟩
 refine ZM (fun σ Hx=>σ=[some (.ref r),some (.ref t),some (.ref s),some (.ref l),some (.ref b),none,none,none]/\(ss++bs).length=ms.length+1-ns.length/\Zf H1 Hx) (λR hR=>?_) ?_
 ·walk_at "rd"
  refine⟨_,(s1.trans s2) _ _ hs1,_,s2 _ _ hb,Yh (show _<=2000 by simp;omega) (by decide),λq1 hq1=>?_⟩
  rw[<-YG]
  have t1:=s2.ZS (o:=.lst ((ss++bs).map V.int)) hq1
  refine⟨_,.inl (SqL.of Zb),_,.inl (SqL.of ((s1.trans t1) _ _ ht1)),_,.inl (SqL.of ((s1.trans t1) _ _ hr1)),?_⟩
  rw[eN,eM,Yc]
  have ek:(if (ms.length:Int)-(ns.length:Int)+1>0 then (ms.length:Int)-(ns.length:Int)+1 else 0)=((ms.length+1-ns.length:Nat):Int):=by split<;>omega
  rw[ek]
  exact ZE (λz=>no (s1.trans t1) λy=>z (by rw[(hJ y).2.2.2.1])) λz=>hR _ _ ⟨rfl,by simp only[Classical.not_not]at z;omega,t1⟩
 rintro σ H3 ⟨rfl,p4,s3⟩
 refine ZM (fun σ Hx=>∃v5,σ=[some (.ref r),some (.ref t),some (.ref s),some (.ref l),some (.ref b),v5,none,none]/\(∀x∈ss,(0<=x/\x<(ms.length+1-ns.length:Nat))/\Zbm (nth ns) (nth ms) 0 x.toNat ns.length)/\Zf H1 Hx) (λR hR=>?_) ?_
 ·walk_at "rd"
  have eS:(ss.map V.int).length=ss.length:=Yc ..
  refine⟨⟨_,SqL.of ((s1.trans s3) _ _ hs1)⟩,?_⟩
  refine Zgf (xs:=ss.map V.int) (λi σ Hx=>∃v5,σ=[some (.ref r),some (.ref t),some (.ref s),some (.ref l),some (.ref b),v5,none,none]/\(∀x∈ss.take i,(0<=x/\x<(ms.length+1-ns.length:Nat))/\Zbm (nth ns) (nth ms) 0 x.toNat ns.length)/\Zf H1 Hx) ⟨none,rfl,(λx hx=>by simp at hx),s3⟩ (λi σ Hx _ ⟨_,_,_,sx⟩=>SqL.of ((s1.trans sx) _ _ hs1)) ?_ ?_
  ·rintro i x σ Hx hx ⟨v5,rfl,hI,sx⟩
   have hi:i<ss.length:=by
    by_cases h:i<ss.length
    ·exact h
    ·rw[List.getElem?_eq_none (by rw[eS];omega)]at hx;cases hx
   rw[Yt,Yb hi]at hx
   cases hx
   have et:ss.take (i+1)=ss.take i++[ss[i]]:=by rw[Y5,Yb hi];rfl
   have sxH:=s1.trans sx
   generalize eX:ss[i]=x at et
   have hxm:x∈ss:=eX▸YA hi
   walk_at "rd"
   have htx:=sxH _ _ ht1
   have hrx:=sxH _ _ hr1
   have bad:¬ (0<=x/\x<(ms.length+1-ns.length:Nat))->Q (.bl false) Hx:=λh=>no sxH λy=>h ((hJ y).2.2.2.2 x (YF _ hxm))
   refine ZE (λh0=>⟨_,.inl (SqL.of htx),_,.inl (SqL.of hrx),?_⟩) λh0=>bad λh=>h0 h.1
   rw[eN,eM]
   refine ZE (λh1=>bad λh=>by omega) λh1=>⟨_,.inl (SqL.of hrx),_,SqL.of htx,λq hq=>?_⟩
   obtain⟨x,rfl⟩:=YO h0
   have h2:x+ns.length<=ms.length:=by omega
   rw[eN,show((x:Int)+(ns.length:Int))=((x+ns.length:Nat):Int) by omega,Zgs ms (by omega) h2,show x+ns.length-x=ns.length by omega]
   have t1:=(Zf.refl Hx).upd (o:=.lst ((Zcb ms x ns.length).map V.int)) hq
   have lc:(Zcb ms x ns.length).length=ns.length:=Zgq h2
   refine⟨r,q,ns,_,rfl,t1 _ _ hrx,Zb,by omega,by rw[lc];omega,λc H5 ec s5=>⟨_,rfl,ZE (λz=>no (sxH.trans (t1.trans s5)) λy=>?_) λz=>⟨λy hy=>?_,sx.trans (t1.trans s5)⟩⟩⟩
   ·have:=ec.mpr ⟨lc.symm,(Zgt h2).mp (y.2.2 x hxm)⟩
    rw[this]at z;cases z
   ·rw[et]at hy
    rcases Yl.mp hy with hy|hy
    ·have:=hI y hy
     exact⟨this.1.1,this.1.2,this.2⟩
    ·cases YK.mp hy
     refine⟨by omega,by omega,?_⟩
     rw[show((x:Nat):Int).toNat=x by omega]
     exact(Zgt h2).mpr (ec.mp (by simpa using z)).2
  ·rintro σ Hx ⟨v5,rfl,hI,sx⟩
   rw[eS,List.take_length]at hI
   exact hR _ _ ⟨v5,rfl,hI,sx⟩
 rintro σ H4 ⟨v5,rfl,p5,s4⟩
 refine ZM (fun σ Hx=>(∀o∈os,∃s a m:Nat,s<ms.length+1-ns.length/\o=[(s:Int),(a:Int),((a+m:Nat):Int)]/\a+m<ns.length/\(ZC (nth ns) a m:Int)-(a:Nat)≠(ZC (nth ms) (s+a) m:Int)-(s+a:Nat))/\Zf H1 Hx) (λR hR=>?_) ?_
 ·walk_at "rd"
  obtain⟨as,o1,o2,o3⟩:=hO
  have eA:(as.map V.ref).length=os.length:=by rw[Yc,o2]
  refine⟨⟨_,SqL.of ((s1.trans s4) _ _ o1)⟩,?_⟩
  refine Zgf (xs:=as.map V.ref) (λi σ Hx=>∃v5 v6 v7,σ=[some (.ref r),some (.ref t),some (.ref s),some (.ref l),some (.ref b),v5,v6,v7]/\(∀o∈os.take i,∃s a m:Nat,s<ms.length+1-ns.length/\o=[(s:Int),(a:Int),((a+m:Nat):Int)]/\a+m<ns.length/\(ZC (nth ns) a m:Int)-(a:Nat)≠(ZC (nth ms) (s+a) m:Int)-(s+a:Nat))/\Zf H1 Hx) ⟨_,_,_,rfl,(λx hx=>by simp at hx),s4⟩ (λi σ Hx _ ⟨_,_,_,_,_,sx⟩=>SqL.of ((s1.trans sx) _ _ o1)) ?_ ?_
  ·rintro i x σ Hx hx ⟨v5,v6,v7,rfl,hI,sx⟩
   have hi:i<os.length:=by
    by_cases h:i<os.length
    ·exact h
    ·rw[List.getElem?_eq_none (by rw[eA];omega)]at hx;cases hx
   have hi2:i<as.length:=by omega
   rw[Yt,Yb hi2]at hx
   cases hx
   have et:os.take (i+1)=os.take i++[os[i]]:=by rw[Y5,Yb hi];rfl
   have sxH:=s1.trans sx
   have hta:=sxH _ _ (o3 i hi2 hi)
   obtain⟨x0,x1,x2,e3⟩:=ZiS (ho3 _ (YA hi))
   have hom:os[i]∈os:=YA hi
   rw[e3]at hta et hom
   walk_at "rd"
   have htx:=sxH _ _ ht1
   have hrx:=sxH _ _ hr1
   have bad:¬ ((0<=x0/\x0<(ms.length+1-ns.length:Nat))/\0<=x1/\x1<=x2/\x2<ns.length)->Q (.bl false) Hx:=λh=>no sxH λy=>h (by
    have h1:=(hJ y).2.2.2.2 x0 (Yy _ (eB▸YB.mpr ⟨_,hom,rfl⟩))
    obtain⟨s',a',m',e,h2,_⟩:=y.2.1 _ hom
    simp only[List.cons.injEq,and_true]at e
    exact⟨h1,by omega,by omega,by omega⟩)
   refine⟨_,SqT.of hta,rfl,_,_,rfl,_,_,rfl,_,_,rfl,rfl,_,rfl,ZE (λh0=>⟨_,.inl (SqL.of htx),_,.inl (SqL.of hrx),_,rfl,?_⟩) λh0=>bad λh=>h0 h.1.1⟩
   rw[eN,eM]
   refine ZE (λh1=>bad λh=>by omega) λh1=>⟨_,rfl,ZE (λh2=>⟨_,rfl,_,rfl,ZE (λh3=>⟨_,.inl (SqL.of hrx),_,rfl,?_⟩) λh3=>bad λh=>by omega⟩) λh2=>bad λh=>by omega⟩
   rw[eN]
   refine ZE (λh4=>bad λh=>by omega) λh4=>?_
   obtain⟨q,rfl⟩:=YO h0
   obtain⟨a,rfl⟩:=YO h2
   obtain⟨m,rfl⟩:∃m:Nat,x2=((a+m:Nat):Int):=⟨(x2-a).toNat,by omega⟩
   have h5:q+ns.length<=ms.length:=by omega
   have h6:a+m<ns.length:=by omega
   have lc:(Zcb ms q ns.length).length=ns.length:=Zgq h5
   have ecl:=Zmo (i:=a) (m:=m) h5 h6
   refine⟨r,ns,a,m,rfl,hrx,h6,by omega,λH5 s5=>⟨_,rfl,_,.inl (SqL.of (s5 _ _ hrx)),_,rfl,_,SqL.of (s5 _ _ htx),λq1 hq1=>?_⟩⟩
   rw[eN,show((q:Int)+(ns.length:Int))=((q+ns.length:Nat):Int) by omega,Zgs ms (by omega) h5,show q+ns.length-q=ns.length by omega]
   have t1:=(Zf.refl H5).upd (o:=.lst ((Zcb ms q ns.length).map V.int)) hq1
   refine⟨q1,_,a,m,rfl,Zb,by rw[lc];exact h6,by rw[lc];omega,λH6 s6=>⟨rfl,ZE (λz=>no (sxH.trans (s5.trans (t1.trans s6))) λy=>?_) λz=>⟨λo ho=>?_,sx.trans (s5.trans (t1.trans s6))⟩⟩⟩
   ·obtain⟨s',a',m',e,_,h7⟩:=y.2.1 _ hom
    simp only[List.cons.injEq,and_true]at e
    obtain rfl:q=s':=by omega
    obtain rfl:a=a':=by omega
    obtain rfl:m=m':=by omega
    have:=V.int.inj z
    omega
   ·rw[et]at ho
    rcases Yl.mp ho with ho|ho
    ·obtain⟨s',a',m',h7,h8⟩:=hI o ho
     exact⟨s',h7,a',m',h8⟩
    ·cases YK.mp ho
     refine⟨q,by omega,a,m,rfl,h6,λy=>z ?_⟩
     rw[show ZC (nth ns) a m=ZC (nth (Zcb ms q ns.length)) a m by omega]
  ·rintro σ Hx ⟨v5,v6,v7,rfl,hI,sx⟩
   rw[eA,List.take_length]at hI
   exact hR _ _ ⟨hI,sx⟩
 rintro σ H5 ⟨p6,s5⟩
 walk_at "rd"
 refine k1 true _ ⟨λ_=>⟨?_,λo ho=>?_,λq hq=>?_⟩,λ_=>rfl⟩ (s1.trans s5)
 ·rw[eB]
  refine ZiW.mpr ⟨p1,p2,p3,p4,λx hx=>?_⟩
  rcases Yl.mp hx with hx|hx
  ·exact(p5 x hx).1
  ·rw[<-eB]at hx
   obtain⟨o,ho,rfl⟩:=YB.mp hx
   obtain⟨s',a,m,h1,rfl,_⟩:=p6 o ho
   exact⟨Int.natCast_nonneg _,by show((s':Nat):Int) < _;omega⟩
 ·obtain⟨s',a,m,h1,e,h2,h3⟩:=p6 o ho
  exact⟨s',a,m,e,h2,h3⟩
 ·have:=(p5 _ hq).2
  rwa [show((q:Nat):Int).toNat=q by omega]at this
theorem ok_law {f:Addr}{fd:FuncData} (F:Fun K "law" "law" Zfa f fd) (Zbc:Callee P w K mg base "starts_right" 3 ["row","text","starts","others"] (ZbD K mg)) (ZdM:Callee P w K mg base "_law_deal" 1 ["cell"] (Zc2 K mg)) (Zi:Callee P w K mg base "_law_take" 1 ["pot","many"] (ZY K mg)) (ZeH:Callee P w K mg base "_law_row" 3 ["pot","most"] (ZdF K mg)) (ZdN:Callee P w K mg base "_law_text" 4 ["pot","row"] (Zc6 K mg)) (Zda:Callee P w K mg base "_law_paper" 2 ["pot","row","text"] (ZcB K mg)) (ZeI:Callee P w K mg base "_law_due" 2 ["row","text","starts","others"] (ZdI K mg)) (Zbu:Callee P w K mg base "_law_spoilt" 2 ["pot","row","text","starts","others"] (ZbV K mg)) (T:Txt K mg):FnOk P w K mg base (CXE P w) 5 f fd ["script"] (ZkE K):=by
 refine F.okX Zbs (λvs H Q E h=>?_) (λcdv A outer s H vs Q E hr h=>?_)
 ·obtain⟨a,ns,rfl,_⟩:=h;rfl
 obtain⟨sc,cs,rfl,hsc,hcs,k1⟩:=h
 refine⟨_,(Zd (Zat (ZaG PassesOwn.never rfl (Zbt (Zj Za5 (ZO Z1 (pv 0) Za4 (ZG Ze)) (ZX (Za Ze Zc)))) (Zm (i:=1) Zbs.nd rfl (Or.inl rfl)) (Zd (Zp (i:=2) Zbs.nd rfl (Or.inl rfl) (Zk ZdM (hr.mono (by decide)) rfl ZA (Za (pv 1) Zc)))
   (Zd (Zp (i:=3) Zbs.nd rfl (Or.inl rfl) (Zj Za5 (Zk ZeH (hr.mono (by decide)) rfl ZA (Za (pv 2) (Za (ZD Z3 (Z0 (Za Ze (Za Ze (Za Ze (Za Ze Zc))))) (Zk Zi (hr.mono (by decide)) rfl ZA (Za (pv 2) (Za Ze Zc))) (λ_ _=>rfl)) Zc))) (ZX (Za (Zk Zi (hr.mono (by decide)) rfl ZA (Za (pv 2) (Za Ze Zc))) Zc))))
   (Zd (Zp (i:=4) Zbs.nd rfl (Or.inl rfl) (Zk ZdN (hr.mono (by decide)) rfl ZA (Za (pv 2) (Za (pv 3) Zc))))
   (Zd (Zp (i:=5) Zbs.nd rfl (Or.inl rfl) (Zk Zda (hr.mono (by decide)) rfl ZA (Za (pv 2) (Za (pv 3) (Za (pv 4) Zc)))))
   (Zg (Zat (ZaG PassesOwn.never rfl (Z4 rfl T.b_range (Za Ze Zc)) (Zm (i:=6) Zbs.nd rfl (Or.inl rfl)) (Zd (Zp (i:=7) Zbs.nd rfl (Or.inl rfl) (Zk Zbu (hr.mono (by decide)) rfl ZA (Za (pv 2) (Za (pv 3) (Za (pv 4) (Za (ZD Z3 (pv 5) Ze (λ_ _=>rfl)) (Za (ZD Z3 (pv 5) Ze (λ_ _=>rfl)) Zc)))))))
   (Zd (ZK (Zo ZaV (pv 6) Ze (Zr _)) (Zg (Zp (i:=7) Zbs.nd rfl (Or.inl rfl) (Zk Zbu (hr.mono (by decide)) rfl ZA (Za (pv 2) (Za (pv 3) (Za (pv 4) (Za (ZD Z3 (pv 7) Ze (λ_ _=>rfl)) (Za (ZD Z3 (pv 7) Ze (λ_ _=>rfl)) Zc)))))))) Zu)
   (Zg (Zat (ZaG PassesOwn.never rfl (pi_tup (Z0 (Za (pv 5) (Za (pv 7) Zc)))) (ZcU (n:=2) rfl (Zt (Zm (i:=8) Zbs.nd rfl (Or.inl rfl)) (Zt (Zm (i:=9) Zbs.nd rfl (Or.inl rfl)) Zap))) (Zd (Zp (i:=10) Zbs.nd rfl (Or.inl rfl) (Z0 (Za (ZP (ZaN (K:=K) rfl) rfl T.b_list Zce (Za (pv 3) Zc)) (Za (ZP (ZaN (K:=K) rfl) rfl T.b_list Zce (Za (pv 4) Zc)) (Za (ZP (ZaN (K:=K) rfl) rfl T.b_list Zce (Za (pv 8) Zc)) (Za (ZP (ZaN (K:=K) rfl) rfl T.b_list Zce (Za (pv 9) Zc)) Zc))))))
   (Zd (Zp (i:=11) Zbs.nd rfl (Or.inl rfl) (Zk Zbc (hr.mono (by decide)) rfl ZA (Za (ZD Z3 (pv 10) Ze (λ_ _=>rfl)) (Za (ZD Z3 (pv 10) Ze (λ_ _=>rfl)) (Za (ZD Z3 (pv 10) Ze (λ_ _=>rfl)) (Za (ZD Z3 (pv 10) Ze (λ_ _=>rfl)) Zc))))))
   (Zd (ZK (PW.pt (Zgc (Zcv (Zeu (Zh (Zhp (K:=K) rfl) rfl T.b_isinstance Zen (Za (pv 11) (Za (Zj8 (v:=.ty "bool") rfl T.b_bool ZnH rfl) Zc))))) (Zfo (Zo Zgg (pv 11) (Zk ZeI (hr.mono (by decide)) rfl ZA (Za (pv 3) (Za (pv 4) (Za (pv 8) (Za (pv 9) Zc))))) (Zr _))))) (Zg (Zx ZbF)) Zu)
   (Zd (ZK (Zo (Zjw (K:=K) rfl hr) (pv 10) (Z0 (Za (pv 3) (Za (pv 4) (Za (pv 8) (Za (pv 9) Zc))))) (Zr _)) (Zg (Zx ZbF)) Zu)
   (Zg (ZK (Zo Zgg (Zk Zbc (hr.mono (by decide)) rfl ZA (Za (ZP (ZcO (K:=K) rfl) rfl T.b_tuple ZcN (Za (pv 3) Zc)) (Za (ZP (ZcO (K:=K) rfl) rfl T.b_tuple ZcN (Za (pv 4) Zc)) (Za (ZP (ZcO (K:=K) rfl) rfl T.b_tuple ZcN (Za (pv 8) Zc)) (Za (ZP (ZcO (K:=K) rfl) rfl T.b_tuple ZcN (Za (pv 9) Zc)) Zc))))) (pv 11) (Zr _)) (Zg (Zx ZbF)) Zu))))))))))))))))))))
   (Zg (Zx ZbF))),?_⟩
 walk_at "rd"
 have e8:ZbH (cs.map V.int) none (some 5)++[V.int 0]=(cs.take 5++[0]).map V.int:=by
  have:=Zgn (cs.map V.int) 5
  rw[show((5:Nat):Int)=5 from rfl]at this
  rw[this];simp
 have l8:(ZbH (cs.map V.int) none (some 5)).length<=63:=Yh (ZfE _ _ _) (by rw[Yc];omega)
 refine⟨_,hsc,λq1 h1=>⟨by decide,λq2 h2=>⟨_,((Zf.refl _).ZS h2) _ _ Zb,_,Zb,Yh (show _<=100 by simp only[YN,List.length_nil];omega) (by decide),λq3 h3=>⟨⟨_,SqL.of Zb⟩,?_⟩⟩⟩⟩
 have hl0:(upd (upd (upd H q1 (.lst (ZbH (cs.map V.int) none (some 5)))) q2 (.lst [V.int 0])) q3 (.lst (ZbH (cs.map V.int) none (some 5)++[V.int 0]))) q3=some (.lst ((cs.take 5++[0]).map V.int)):=by rw[Zb,e8]
 generalize upd (upd (upd H q1 (.lst (ZbH (cs.map V.int) none (some 5)))) q2 (.lst [V.int 0])) q3 (.lst (ZbH (cs.map V.int) none (some 5)++[V.int 0]))=H0 at hl0⊢
 refine Zgf (K:=K) (a:=q3) (xs:=(cs.take 5++[0]).map V.int) (λi σ H'=>∃v1 v2 v3 v4 v5 v6 v7 v8 v9 v10 v11,σ=[some (.ref sc),v1,v2,v3,v4,v5,v6,v7,v8,v9,v10,v11]/\Zf H0 H') ⟨_,_,_,_,_,_,_,_,_,_,_,rfl,Zf.refl H0⟩ (λi σ H' _ ⟨_,_,_,_,_,_,_,_,_,_,_,_,s⟩=>SqL.of (s _ _ hl0)) ?_ ?_
 ·rintro i x σ H' hi ⟨v1,v2,v3,v4,v5,v6,v7,v8,v9,v10,v11,rfl,hs⟩
  obtain⟨cell,rfl⟩:∃c:Int,x=V.int c:=by
   have:=List.mem_of_getElem? hi
   obtain⟨c,_,rfl⟩:=YB.mp this
   exact⟨c,rfl⟩
  refine ZM (fun σ Hx=>∃p,σ=[some (.ref sc),some (.int cell),some (.ref p),v3,v4,v5,v6,v7,v8,v9,v10,v11]/\H0 p=none/\Zz Hx p/\Zf H0 Hx) (λR hR=>?_) ?_
  ·walk_at "rd"
   exact⟨cell,rfl,λp H1 hp s1 P1=>hR _ _ ⟨p,rfl,hs.free hp,P1,hs.trans s1⟩⟩
  rintro σ H1 ⟨p,rfl,zp,P1,s1⟩
  refine ZM (fun σ Hx=>∃(r:Addr) (ns:List Int),σ=[some (.ref sc),some (.int cell),some (.ref p),some (.ref r),v4,v5,v6,v7,v8,v9,v10,v11]/\0<ns.length/\ns.length<=40/\Hx r=some (.lst (ns.map V.int))/\r≠p/\Zz Hx p/\Zf H0 Hx) (λR hR=>?_) ?_
  ·walk_at "rd"
   refine⟨by decide,λq1 hq1=>?_⟩
   have t1:=(Zf.refl H1).upd (o:=.tup [V.int 7,V.int 7,V.int 7,V.int 19]) hq1
   have m1:(upd H1 q1 (.tup [V.int 7,V.int 7,V.int 7,V.int 19])) q1=_:=Zb
   generalize upd H1 q1 (.tup [V.int 7,V.int 7,V.int 7,V.int 19])=H2 at t1 m1⊢
   have P2:=P1.same t1
   refine⟨p,4,rfl,by decide,by decide,P2,λd H3 d0 d1 P3 e3=>?_⟩
   have m2:=e3 _ _ (λz=>by obtain⟨x,hx,_⟩:=P2;rw[z,hx]at m1;cases m1) m1
   obtain⟨w,ew,f,rfl,f0,f1⟩:=Ze2 (xs:=[V.int 7,V.int 7,V.int 7,V.int 19]) (λx=>∃f:Int,x=V.int f/\0<=f/\f<=19) d0 d1 (λx hx=>by
    simp only[Yk,List.not_mem_nil,or_false]at hx
    rcases hx with rfl|rfl|rfl|rfl<;>exact⟨_,rfl,by decide,by decide⟩)
   refine⟨_,_,rfl,SqT.of m2,_,ew,p,f,rfl,f0,by omega,P3,λr row H4 hr3 hl hrow P4 e4=>⟨p,4,rfl,by decide,by decide,P4,λd H5 d0 d1 P5 e5=>⟨by decide,λq2 hq2=>?_⟩⟩⟩
   have nrp:=P3.ne hr3
   have hr5:=e5 _ _ nrp hrow
   have t5:=(Zf.refl H5).upd (o:=.lst [V.int d]) hq2
   refine⟨r,rfl,_,t5 _ _ hr5,_,Zb,Yh (show _<=1000 by simp;omega) (by decide),λq3 hq3=>?_⟩
   have t6:=t5.ZS (o:=.lst (row.map V.int++[V.int d])) hq3
   refine hR _ _ ⟨q3,row++[d],rfl,by simp,by simp;omega,by rw[Zb];simp,?_,P5.same t6,((((s1.trans t1).exc zp e3).exc zp e4).exc zp e5).trans t6⟩
   exact P5.ne (t5.free hq3)
  clear s1 P1 H1
  rintro σ H1 ⟨r,ns,rfl,hn0,hn,hr1,nrp,P1,s1⟩
  refine ZM (fun σ Hx=>∃(t:Addr) (ms:List Int),σ=[some (.ref sc),some (.int cell),some (.ref p),some (.ref r),some (.ref t),v5,v6,v7,v8,v9,v10,v11]/\ms.length<=40/\Hx r=some (.lst (ns.map V.int))/\Hx t=some (.lst (ms.map V.int))/\t≠p/\Zz Hx p/\Zf H0 Hx) (λR hR=>?_) ?_
  ·walk_at "rd"
   exact⟨p,r,ns,rfl,P1,nrp,hr1,hn0,hn,λt ms H3 ht3 hl hms P3 e3=>hR _ _ ⟨t,ms,rfl,hl,e3 _ _ nrp hr1,hms,P1.ne ht3,P3,s1.exc zp e3⟩⟩
  clear s1 P1 hr1 H1
  rintro σ H1 ⟨t,ms,rfl,hm,hr1,ht1,ntp,P1,s1⟩
  refine ZM (fun σ Hx=>∃k:Addr,σ=[some (.ref sc),some (.int cell),some (.ref p),some (.ref r),some (.ref t),some (.ref k),v6,v7,v8,v9,v10,v11]/\Zek Hx p k 41/\Zz Hx p/\Exc p H1 Hx) (λR hR=>?_) ?_
  ·walk_at "rd"
   exact⟨p,r,t,ns,ms,rfl,P1,nrp,ntp,hr1,ht1,hn0,hn,hm,λq s l H3 P3 e3 n1 n2 h1 h2 h3=>hR _ _ ⟨q,rfl,⟨s,l,h1,n1,n2,h2,h3⟩,P3,e3⟩⟩
  rintro σ H2 ⟨k,rfl,hK,P2,e2⟩
  walk_at "rd"
  refine⟨by decide,by decide,?_⟩
  refine Zal (λi σ Hx=>∃v6 v7 v8 v9 v10 v11,σ=[some (.ref sc),some (.int cell),some (.ref p),some (.ref r),some (.ref t),some (.ref k),v6,v7,v8,v9,v10,v11]/\Zek Hx p k 41/\Zz Hx p/\Exc p H1 Hx) ⟨_,_,_,_,_,_,rfl,hK,P2,e2⟩ ?_ ?_
  ·clear hK P2 e2 v6 v7 v8 v9 v10 v11
   rintro j σ Hx hj ⟨v6,v7,v8,v9,v10,v11,rfl,hK,P2,e2⟩
   have ej:((0:Int)+(j:Int))=(j:Int):=by omega
   rw[ej]
   refine ZM (fun σ Hy=>∃q:Addr,σ=[some (.ref sc),some (.int cell),some (.ref p),some (.ref r),some (.ref t),some (.ref k),some (.int j),some (.ref q),v8,v9,v10,v11]/\Zek Hy p k 41/\Zek Hy p q 42/\Zz Hy p/\Exc p H1 Hy) (λR hR=>?_) ?_
   ·walk_at "rd"
    obtain⟨s',l',a1,a2,a3,a4,a5⟩:=id hK
    refine⟨_,SqT.of a1,_,rfl,_,SqT.of a1,_,rfl,p,r,t,s',l',ns,ms,41,41,rfl,P2,nrp,ntp,a2,a3,e2 _ _ nrp hr1,e2 _ _ ntp ht1,hn0,hn,hm,a4,a5,by decide,by decide,λq s2 l2 Hy Py ey z1 z2 b1 b2 b3=>hR _ _ ⟨q,rfl,hK.exc P2 ey,⟨s2,l2,b1,P2.ne z1,P2.ne z2,b2,b3⟩,Py,e2.trans ey⟩⟩
   clear hK P2 e2
   rintro σ Hy ⟨q,rfl,hK,hq,P2,e2⟩
   refine ZM (fun σ Hy=>∃q:Addr,σ=[some (.ref sc),some (.int cell),some (.ref p),some (.ref r),some (.ref t),some (.ref k),some (.int j),some (.ref q),v8,v9,v10,v11]/\Zek Hy p k 41/\Zek Hy p q 43/\Zz Hy p/\Exc p H1 Hy) (λR hR=>?_) ?_
   ·walk_at "rd"
    refine ZE (λz=>?_) λz=>hR _ _ ⟨q,rfl,hK,hq.mono (by decide),P2,e2⟩
    obtain⟨s',l',a1,a2,a3,a4,a5⟩:=id hq
    refine⟨_,SqT.of a1,_,rfl,_,SqT.of a1,_,rfl,p,r,t,s',l',ns,ms,42,42,rfl,P2,nrp,ntp,a2,a3,e2 _ _ nrp hr1,e2 _ _ ntp ht1,hn0,hn,hm,a4,a5,by decide,by decide,λq s2 l2 Hy Py ey z1 z2 b1 b2 b3=>hR _ _ ⟨q,rfl,hK.exc P2 ey,⟨s2,l2,b1,P2.ne z1,P2.ne z2,b2,b3⟩,Py,e2.trans ey⟩⟩
   clear hK P2 e2 hq q Hy
   rintro σ Hy ⟨q,rfl,hK,hq,P2,e2⟩
   walk_at "rd"
   refine⟨by decide,λw hw=>⟨⟨_,SqT.of Zb⟩,?_⟩⟩
   have t1:=(Zf.refl Hy).upd (o:=.tup [V.ref k,V.ref q]) hw
   have m1:(upd Hy w (.tup [V.ref k,V.ref q])) w=_:=Zb
   generalize upd Hy w (.tup [V.ref k,V.ref q])=Hz at t1 m1⊢
   refine Znz (K:=K) (a:=w) (xs:=[V.ref k,V.ref q]) (λi σ Hv=>∃v8 v9 v10 v11,σ=[some (.ref sc),some (.int cell),some (.ref p),some (.ref r),some (.ref t),some (.ref k),some (.int j),some (.ref q),v8,v9,v10,v11]/\Zf Hz Hv) ⟨_,_,_,_,rfl,Zf.refl _⟩ (λi σ Hv _ ⟨_,_,_,_,_,s⟩=>SqT.of (s _ _ m1)) ?_ ?_
   ·clear v8 v9 v10 v11
    rintro i' x σ Hv hi' ⟨v8,v9,v10,v11,rfl,sv⟩
    obtain⟨a,rfl,hA⟩:∃a,x=V.ref a/\Zek Hv p a 43:=by
     match i',hi' with
     |0,hi'=>cases hi';exact⟨k,rfl,((hK.mono (by decide)).same t1).same sv⟩
     |1,hi'=>cases hi';exact⟨q,rfl,(hq.same t1).same sv⟩
    obtain⟨s',l',a1,a2,a3,⟨ss,a4,a5⟩,hT⟩:=hA
    obtain⟨os,hO,hol,ho3⟩:=hT.tups
    have hr2:=sv _ _ (t1 _ _ (e2 _ _ nrp hr1))
    have ht2:=sv _ _ (t1 _ _ (e2 _ _ ntp ht1))
    walk_at "rd"
    refine⟨_,SqT.of a1,rfl,_,_,rfl,_,_,rfl,rfl,?_⟩
    obtain⟨as,o1,o2,o3⟩:=hO
    refine⟨_,.inl (SqL.of hr2),λb1 hb1=>?_⟩
    have u1:=(Zf.refl Hv).upd (o:=.lst (ns.map V.int)) hb1
    have n1:(upd Hv b1 (.lst (ns.map V.int))) b1=_:=Zb
    generalize upd Hv b1 (.lst (ns.map V.int))=G1 at u1 n1⊢
    refine⟨_,.inl (SqL.of (u1 _ _ ht2)),λb2 hb2=>?_⟩
    have u2:=(Zf.refl G1).upd (o:=.lst (ms.map V.int)) hb2
    have n2:(upd G1 b2 (.lst (ms.map V.int))) b2=_:=Zb
    generalize upd G1 b2 (.lst (ms.map V.int))=G2 at u2 n2⊢
    refine⟨_,rfl,_,.inl (SqL.of (u2 _ _ (u1 _ _ a4))),λb3 hb3=>?_⟩
    have u3:=(Zf.refl G2).upd (o:=.lst (ss.map V.int)) hb3
    have n3:(upd G2 b3 (.lst (ss.map V.int))) b3=_:=Zb
    generalize upd G2 b3 (.lst (ss.map V.int))=G3 at u3 n3⊢
    refine⟨_,rfl,_,.inl (SqL.of (u3 _ _ (u2 _ _ (u1 _ _ o1)))),λb4 hb4=>?_⟩
    have u4:=(Zf.refl G3).upd (o:=.lst (as.map V.ref)) hb4
    have n4:(upd G3 b4 (.lst (as.map V.ref))) b4=_:=Zb
    generalize upd G3 b4 (.lst (as.map V.ref))=G4 at u4 n4⊢
    refine⟨by decide,λb5 hb5=>?_⟩
    have u5:=(Zf.refl G4).upd (o:=.tup [V.ref b1,V.ref b2,V.ref b3,V.ref b4]) hb5
    have n5:(upd G4 b5 (.tup [V.ref b1,V.ref b2,V.ref b3,V.ref b4])) b5=_:=Zb
    generalize upd G4 b5 (.tup [V.ref b1,V.ref b2,V.ref b3,V.ref b4])=G5 at u5 n5⊢
    have uA:=u1.trans (u2.trans (u3.trans (u4.trans u5)))
    replace n4:=u5 _ _ n4
    replace n3:=(u4.trans u5) _ _ n3
    replace n2:=(u3.trans (u4.trans u5)) _ _ n2
    replace n1:=(u2.trans (u3.trans (u4.trans u5))) _ _ n1
    have hO4:Zav G5 b4 os:=⟨as,n4,o2,λi i1 i2=>uA _ _ (o3 i i1 i2)⟩
    clear u1 u2 u3 u4 u5
    refine⟨_,SqT.of n5,_,rfl,_,SqT.of n5,_,rfl,_,SqT.of n5,_,rfl,_,SqT.of n5,_,rfl,?_⟩
    refine⟨b1,b2,b3,b4,ns,ms,ss,os,rfl,.inl (SqL.of n1),.inl (SqL.of n2),by omega,by omega,.inl (SqL.of n3),by omega,.inl hO4,by omega,ho3,hn0,λc1 G6 ec1 s6=>?_⟩
    have s06:=uA.trans s6
    have hO6:Zav Hv l' os:=⟨as,o1,o2,o3⟩
    refine⟨true,.inl ⟨_,.bl _,by with_unfolding_all rfl⟩,ZE (λz=>nomatch z) λ_=>?_⟩
    refine⟨r,t,s',l',ns,ms,ss,os,rfl,s06 _ _ hr2,s06 _ _ ht2,s06 _ _ a4,hO6.same s06,ho3,hn0,hn,hm,by omega,by omega,λc2 G7 ec2 s7=>?_⟩
    have ec:c1=c2:=by rw[Bool.eq_iff_iff,ec1,ec2]
    subst ec
    have s67:=s6.trans s7
    have s07:=uA.trans s67
    refine⟨rfl,ZE (λz=>absurd rfl z) λ_=>⟨by decide,λb6 hb6=>?_⟩⟩
    have u6:=(Zf.refl G7).upd (o:=.tup [V.ref r,V.ref t,V.ref s',V.ref l']) hb6
    have n6:(upd G7 b6 (.tup [V.ref r,V.ref t,V.ref s',V.ref l'])) b6=_:=Zb
    generalize upd G7 b6 (.tup [V.ref r,V.ref t,V.ref s',V.ref l'])=G8 at u6 n6⊢
    have s08:=s07.trans u6
    have s58:=s67.trans u6
    refine⟨true,?_,ZE (λz=>nomatch z) λ_=>?_⟩
    ·refine ZmD (s58 _ _ n5) n6 ?_ ?_ ?_ ?_
     ·exact Zfb (Zcg (n:=1) Zcf _ _ _ _ (Z8 (SqL.of (s58 _ _ n1))) (Z8 (SqL.of (s08 _ _ hr2)))) rfl
     ·exact Zfb (Zcg (n:=1) Zcf _ _ _ _ (Z8 (SqL.of (s58 _ _ n2))) (Z8 (SqL.of (s08 _ _ ht2)))) rfl
     ·exact Zfb (Zcg (n:=1) Zcf _ _ _ _ (Z8 (SqL.of (s58 _ _ n3))) (Z8 (SqL.of (s08 _ _ a4)))) rfl
     ·exact Zfb (Zcg (n:=1) (ZnR (n:=0) Zcf) _ _ _ _ (hO4.same s58).isL (hO6.same s08).isL) rfl
    refine⟨_,.inl ⟨SqL.of (s08 _ _ hr2),λd1 hd1=>?_⟩⟩
    have u1:=(Zf.refl G8).upd (o:=.tup (ns.map V.int)) hd1
    have n1:(upd G8 d1 (.tup (ns.map V.int))) d1=_:=Zb
    generalize upd G8 d1 (.tup (ns.map V.int))=G1 at u1 n1⊢
    refine⟨_,.inl ⟨SqL.of (u1 _ _ (s08 _ _ ht2)),λd2 hd2=>?_⟩⟩
    have u2:=(Zf.refl G1).upd (o:=.tup (ms.map V.int)) hd2
    have n2:(upd G1 d2 (.tup (ms.map V.int))) d2=_:=Zb
    generalize upd G1 d2 (.tup (ms.map V.int))=G2 at u2 n2⊢
    refine⟨_,rfl,_,.inl ⟨SqL.of (u2 _ _ (u1 _ _ (s08 _ _ a4))),λd3 hd3=>?_⟩⟩
    have u3:=(Zf.refl G2).upd (o:=.tup (ss.map V.int)) hd3
    have n3:(upd G2 d3 (.tup (ss.map V.int))) d3=_:=Zb
    generalize upd G2 d3 (.tup (ss.map V.int))=G3 at u3 n3⊢
    refine⟨_,rfl,_,.inl ⟨SqL.of (u3 _ _ (u2 _ _ (u1 _ _ (s08 _ _ o1)))),λd4 hd4=>?_⟩⟩
    have u4:=(Zf.refl G3).upd (o:=.tup (as.map V.ref)) hd4
    have n4:(upd G3 d4 (.tup (as.map V.ref))) d4=_:=Zb
    generalize upd G3 d4 (.tup (as.map V.ref))=G4 at u4 n4⊢
    have uB:=u1.trans (u2.trans (u3.trans u4))
    have hO4:TupsU G4 d4 os:=⟨as,n4,o2,λi i1 i2=>(s08.trans uB) _ _ (o3 i i1 i2)⟩
    refine⟨d1,d2,d3,d4,ns,ms,ss,os,rfl,.inr (SqT.of ((u2.trans (u3.trans u4)) _ _ n1)),.inr (SqT.of ((u3.trans u4) _ _ n2)),by omega,by omega,.inr (SqT.of (u4 _ _ n3)),by omega,.inr hO4,by omega,ho3,hn0,λc3 G9 ec3 s9=>⟨rfl,ZE (λz=>?_) λ_=>sv.trans ((s08.trans uB).trans s9)⟩⟩
    exact absurd (by rw[show c3=c1 by rw[Bool.eq_iff_iff,ec3,ec1]]) z
   ·rintro σ Hv ⟨v8,v9,v10,v11,rfl,sv⟩
    exact⟨_,_,_,_,_,_,rfl,(hK.same t1).same sv,(P2.same t1).same sv,(e2.same t1).same sv⟩
  ·rintro σ Hx ⟨v6,v7,v8,v9,v10,v11,rfl,hK,P3,e3⟩
   exact⟨_,_,_,_,_,_,_,_,_,_,_,rfl,s1.exc zp e3⟩
 ·rintro σ Hx ⟨v1,v2,v3,v4,v5,v6,v7,v8,v9,v10,v11,rfl,sx⟩
  walk_at "rd"
  exact k1 _
end
theorem all_mk {l:PySem.W.OpenLaw}{w:World}{K:PySem.W.Frag}{h:Heap}{mg:Str->Option Value}{fa:Addr} (X:K.In h) (G:h.Ns mainGlobals mg) (hfa:mg "law"=some (.ref fa))
  {Zdt:Tok}{oc3_need_numbers:Value}{od3_need_numbers:Option Addr}{Zf4:Nat}{sl3_need_numbers:Array (Option Value)}
  (Zbd:nsIn K mainGlobals "need_numbers"=some (some (.ref ZdO))) (Zb0:K.lookup ZdO=some ⟨Zlp,Zlq,.func (fnOf "need_numbers" "need_numbers" (defArgs Zad) (defBody Zad) (defScope Zad) (.ref ZgE) Zlr Zls Zlt Zlu Zf5 Zlv),Zlw⟩) (Zb1:codeIn K Zf5 "need_numbers"=true) (Zay:keepIn K (.ref ZdO)=true)
  (Zbe:K.lookup ZgE=some ⟨oc3_need_numbers,od3_need_numbers,.seq #[.int 1 Zdt] Zf4,sl3_need_numbers⟩)
  (Zdb:nsIn K mainGlobals "is_stretch"=some (some (.ref Zfd))) (Zdc:K.lookup Zfd=some ⟨Zm1,Zm2,.func (fnOf "is_stretch" "is_stretch" (defArgs ZaB) (defBody ZaB) (defScope ZaB) .none Zm3 Zm4 Zm5 Zm6 Zg9 Zm7),Zm8⟩) (Zdd:codeIn K Zg9 "is_stretch"=true) (ZbK:keepIn K (.ref Zfd)=true)
  (ZgF:nsIn K mainGlobals "lesser"=some (some (.ref Zi3))) (ZgG:K.lookup Zi3=some ⟨ZpO,ZpP,.func (fnOf "lesser" "lesser" (defArgs ZcS) (defBody ZcS) (defScope ZcS) .none ZpQ ZpR ZpS ZpT Zln ZpU),ZpV⟩) (ZgH:codeIn K Zln "lesser"=true) (Zfe:keepIn K (.ref Zi3)=true)
  (ZdP:nsIn K mainGlobals "low_steps"=some (some (.ref ZfL))) (ZdQ:K.lookup ZfL=some ⟨Zn2,Zn3,.func (fnOf "low_steps" "low_steps" (defArgs ZaW) (defBody ZaW) (defScope ZaW) .none Zn4 Zn5 Zn6 Zn7 Zic Zn8),Zn9⟩) (ZdR:codeIn K Zic "low_steps"=true) (Zcm:keepIn K (.ref ZfL)=true)
  (ZfB:nsIn K mainGlobals "parting"=some (some (.ref ZhA))) (ZfC:K.lookup ZhA=some ⟨ZpB,ZpC,.func (fnOf "parting" "parting" (defArgs ZbP) (defBody ZbP) (defScope ZbP) .none ZpD ZpE ZpF ZpG ZjS ZpH),ZpI⟩) (ZfD:codeIn K ZjS "parting"=true) (Zej:keepIn K (.ref ZhA)=true)
  (ZeJ:nsIn K mainGlobals "parts_at"=some (some (.ref ZgI))) (ZeK:K.lookup ZgI=some ⟨ZoW,ZoX,.func (fnOf "parts_at" "parts_at" (defArgs Zbn) (defBody Zbn) (defScope Zbn) .none ZoY ZoZ Zo0 Zo1 Zi4 Zo2),Zo3⟩) (ZeL:codeIn K Zi4 "parts_at"=true) (Zde:keepIn K (.ref ZgI)=true)
  (Zdf:nsIn K mainGlobals "all_tuples"=some (some (.ref Zff))) (Zdg:K.lookup Zff=some ⟨Zm9,Zna,.func (fnOf "all_tuples" "all_tuples" (defArgs ZaC) (defBody ZaC) (defScope ZaC) .none Znb Znc Znd Zne Zha Znf),Zng⟩) (Zdh:codeIn K Zha "all_tuples"=true) (ZbL:keepIn K (.ref Zff)=true)
  (Zbf:nsIn K mainGlobals "each_start_once"=some (some (.ref Zcn))) (Zbg:K.lookup Zcn=some ⟨ZjT,ZjU,.func (fnOf "each_start_once" "each_start_once" (defArgs ZU) (defBody ZU) (defScope ZU) .none ZjV ZjW ZjX ZjY ZeM ZjZ),Zj0⟩) (Zbh:codeIn K ZeM "each_start_once"=true) (Zar:keepIn K (.ref Zcn)=true)
  (Zb2:nsIn K mainGlobals "starts_right"=some (some (.ref ZdS))) (Zb3:K.lookup ZdS=some ⟨Zlx,Zly,.func (fnOf "starts_right" "starts_right" (defArgs Zae) (defBody Zae) (defScope Zae) .none Zlz ZlA ZlB ZlC Zf6 ZlD),ZlE⟩) (Zb4:codeIn K Zf6 "starts_right"=true) (Zbi:keepIn K (.ref ZdS)=true)
  (ZdT:nsIn K mainGlobals "_law_deal"=some (some (.ref ZfM))) (ZdU:K.lookup ZfM=some ⟨Zoa,Zob,.func (fnOf "_law_deal" "_law_deal" (defArgs ZaX) (defBody ZaX) (defScope ZaX) .none Zoc Zod Zoe Zof Zid Zog),Zoh⟩) (ZdV:codeIn K Zid "_law_deal"=true) (Zco:keepIn K (.ref ZfM)=true)
  (ZdW:nsIn K mainGlobals "_law_take"=some (some (.ref ZfN))) (ZdX:K.lookup ZfN=some ⟨Zoi,Zoj,.func (fnOf "_law_take" "_law_take" (defArgs ZaY) (defBody ZaY) (defScope ZaY) .none Zok Zol Zom Zon Zie Zoo),Zop⟩) (ZdY:codeIn K Zie "_law_take"=true) (Zcp:keepIn K (.ref ZfN)=true)
  (ZcE:nsIn K mainGlobals "_law_unlike"=some (some (.ref Zeq))) (ZcF:K.lookup Zeq=some ⟨ZmE,ZmF,.func (fnOf "_law_unlike" "_law_unlike" (defArgs Zan) (defBody Zan) (defScope Zan) .none ZmG ZmH ZmI ZmJ ZgJ ZmK),ZmL⟩) (ZcG:codeIn K ZgJ "_law_unlike"=true) (Zbv:keepIn K (.ref Zeq)=true)
  (ZeN:nsIn K mainGlobals "_law_row"=some (some (.ref ZgK))) (ZeO:K.lookup ZgK=some ⟨Zo4,Zo5,.func (fnOf "_law_row" "_law_row" (defArgs Zbo) (defBody Zbo) (defScope Zbo) .none Zo6 Zo7 Zo8 Zo9 Zi5 Zpa),Zpb⟩) (ZeP:codeIn K Zi5 "_law_row"=true) (Zdi:keepIn K (.ref ZgK)=true)
  (ZdZ:nsIn K mainGlobals "_law_tree"=some (some (.ref ZfO))) (Zd0:K.lookup ZfO=some ⟨Zoq,Zor,.func (fnOf "_law_tree" "_law_tree" (defArgs ZaZ) (defBody ZaZ) (defScope ZaZ) .none Zos Zot Zou Zov Zif Zow),Zox⟩) (Zd1:codeIn K Zif "_law_tree"=true) (Zcq:keepIn K (.ref ZfO)=true)
  (Zd2:nsIn K mainGlobals "_law_over"=some (some (.ref ZfP))) (Zd3:K.lookup ZfP=some ⟨Zoy,Zoz,.func (fnOf "_law_over" "_law_over" (defArgs Za0) (defBody Za0) (defScope Za0) .none ZoA ZoB ZoC ZoD Zig ZoE),ZoF⟩) (Zd4:codeIn K Zig "_law_over"=true) (Zcr:keepIn K (.ref ZfP)=true)
  (Zd5:nsIn K mainGlobals "_law_flat"=some (some (.ref ZfQ))) (Zd6:K.lookup ZfQ=some ⟨ZoG,ZoH,.func (fnOf "_law_flat" "_law_flat" (defArgs Za1) (defBody Za1) (defScope Za1) .none ZoI ZoJ ZoK ZoL Zih ZoM),ZoN⟩) (Zd7:codeIn K Zih "_law_flat"=true) (Zcs:keepIn K (.ref ZfQ)=true)
  (ZeQ:nsIn K mainGlobals "_law_kin"=some (some (.ref ZgL))) (ZeR:K.lookup ZgL=some ⟨Zpc,Zpd,.func (fnOf "_law_kin" "_law_kin" (defArgs Zbp) (defBody Zbp) (defScope Zbp) .none Zpe Zpf Zpg Zph Zi6 Zpi),Zpj⟩) (ZeS:codeIn K Zi6 "_law_kin"=true) (Zdj:keepIn K (.ref ZgL)=true)
  (Zb5:nsIn K mainGlobals "_law_kin_row"=some (some (.ref Zd8))) (Zb6:K.lookup Zd8=some ⟨ZlF,ZlG,.func (fnOf "_law_kin_row" "_law_kin_row" (defArgs Zaf) (defBody Zaf) (defScope Zaf) .none ZlH ZlI ZlJ ZlK Zf7 ZlL),ZlM⟩) (Zb7:codeIn K Zf7 "_law_kin_row"=true) (Zbj:keepIn K (.ref Zd8)=true)
  (Zd9:nsIn K mainGlobals "_law_text"=some (some (.ref ZfR))) (Zea:K.lookup ZfR=some ⟨ZoO,ZoP,.func (fnOf "_law_text" "_law_text" (defArgs Za2) (defBody Za2) (defScope Za2) .none ZoQ ZoR ZoS ZoT Zii ZoU),ZoV⟩) (Zeb:codeIn K Zii "_law_text"=true) (Zct:keepIn K (.ref ZfR)=true)
  (ZeT:nsIn K mainGlobals "_law_low"=some (some (.ref ZgM))) (ZeU:K.lookup ZgM=some ⟨Zpk,Zpl,.func (fnOf "_law_low" "_law_low" (defArgs Zbq) (defBody Zbq) (defScope Zbq) .none Zpm Zpn Zpo Zpp Zi7 Zpq),Zpr⟩) (ZeV:codeIn K Zi7 "_law_low"=true) (Zdk:keepIn K (.ref ZgM)=true)
  (Zdl:nsIn K mainGlobals "_law_paper"=some (some (.ref Zfg))) (Zdm:K.lookup Zfg=some ⟨Znh,Zni,.func (fnOf "_law_paper" "_law_paper" (defArgs ZaD) (defBody ZaD) (defScope ZaD) .none Znj Znk Znl Znm Zhb Znn),Zno⟩) (Zdn:codeIn K Zhb "_law_paper"=true) (ZbM:keepIn K (.ref Zfg)=true)
  (Zdo:nsIn K mainGlobals "_law_rises"=some (some (.ref Zfh))) (Zdp:K.lookup Zfh=some ⟨Znp,Znq,.func (fnOf "_law_rises" "_law_rises" (defArgs ZaE) (defBody ZaE) (defScope ZaE) .none Znr Zns Znt Znu Zhc Znv),Znw⟩) (Zdq:codeIn K Zhc "_law_rises"=true) (ZbN:keepIn K (.ref Zfh)=true)
  (ZeW:nsIn K mainGlobals "_law_due"=some (some (.ref ZgN))) (ZeX:K.lookup ZgN=some ⟨Zps,Zpt,.func (fnOf "_law_due" "_law_due" (defArgs Zbr) (defBody Zbr) (defScope Zbr) .none Zpu Zpv Zpw Zpx Zi8 Zpy),Zpz⟩) (ZeY:codeIn K Zi8 "_law_due"=true) (Zdr:keepIn K (.ref ZgN)=true)
  (ZaS:nsIn K mainGlobals "_law_from_behind"=some (some (.ref Zb8))) (ZaT:K.lookup Zb8=some ⟨Zjh,Zji,.func (fnOf "_law_from_behind" "_law_from_behind" (defArgs ZQ) (defBody ZQ) (defScope ZQ) .none Zjj Zjk Zjl Zjm Zem Zjn),Zjo⟩) (ZaU:codeIn K Zem "_law_from_behind"=true) (Zah:keepIn K (.ref Zb8)=true)
  (ZcH:nsIn K mainGlobals "_law_spoilt"=some (some (.ref Zer))) (ZcI:K.lookup Zer=some ⟨ZmM,ZmN,.func (fnOf "_law_spoilt" "_law_spoilt" (defArgs Zao) (defBody Zao) (defScope Zao) .none ZmO ZmP ZmQ ZmR ZgO ZmS),ZmT⟩) (ZcJ:codeIn K ZgO "_law_spoilt"=true) (Zbw:keepIn K (.ref Zer)=true)
  (ZmU:nsIn K mainGlobals "law"=some (some (.ref ZpA))) (ZmV:K.lookup ZpA=some ⟨ZpX,ZpY,.func (fnOf "law" "law" (defArgs Zfa) (defBody Zfa) (defScope Zfa) .none ZpJ ZpK ZpL ZpM ZmW ZpN),ZpZ⟩) (ZmX:codeIn K ZmW "law"=true) (ZmY:keepIn K (.ref ZpA)=true)
  {C_DipError:Addr} (n_DipError:nsIn K mainGlobals "DipError"=some (some (.ref C_DipError))) (x_DipError:PySem.W.excIn K C_DipError bmV newV=true) (d_DipError:PySem.W.hasDictIn K C_DipError=true) (y_DipError:PySem.W.typeIn K (.ref C_DipError)=some (.type "type"))
  {C_Empty:Addr} (n_Empty:nsIn K mainGlobals "Empty"=some (some (.ref C_Empty))) (x_Empty:PySem.W.excIn K C_Empty bmV newV=true) (d_Empty:PySem.W.hasDictIn K C_Empty=true) (y_Empty:PySem.W.typeIn K (.ref C_Empty)=some (.type "type"))
  (b_all:nsIn K mainGlobals "all"=some none)
  (b_bool:nsIn K mainGlobals "bool"=some none)
  (b_enumerate:nsIn K mainGlobals "enumerate"=some none)
  (b_int:nsIn K mainGlobals "int"=some none)
  (b_isinstance:nsIn K mainGlobals "isinstance"=some none)
  (b_len:nsIn K mainGlobals "len"=some none)
  (b_list:nsIn K mainGlobals "list"=some none)
  (b_max:nsIn K mainGlobals "max"=some none)
  (b_min:nsIn K mainGlobals "min"=some none)
  (b_range:nsIn K mainGlobals "range"=some none)
  (b_set:nsIn K mainGlobals "set"=some none)
  (b_sorted:nsIn K mainGlobals "sorted"=some none)
  (b_tuple:nsIn K mainGlobals "tuple"=some none)
  (b_zip:nsIn K mainGlobals "zip"=some none)
  : ∃fd:FuncData,(∀(s:Shared) (v:Value),BindsTo s fd ⟨[v],[]⟩ [("script",v)])/\∀base:Heap,K.In base->base.Ns mainGlobals mg->FnOk l.prog w K mg base (CXE l.prog w) 5 fa fd ["script"] (ZkE K):=by
 have e:=hfa.symm.trans (mg_of X G ZmU)
 cases e
 have q_DipError:clsAt mg "DipError"=C_DipError:=by unfold clsAt;rw[mg_of X G n_DipError]
 have q_Empty:clsAt mg "Empty"=C_Empty:=by unfold clsAt;rw[mg_of X G n_Empty]
 have T:Txt K mg:={
  b_all:=mg_none_of X G b_all
  b_bool:=mg_none_of X G b_bool
  b_enumerate:=mg_none_of X G b_enumerate
  b_int:=mg_none_of X G b_int
  b_isinstance:=mg_none_of X G b_isinstance
  b_len:=mg_none_of X G b_len
  b_list:=mg_none_of X G b_list
  b_max:=mg_none_of X G b_max
  b_min:=mg_none_of X G b_min
  b_range:=mg_none_of X G b_range
  b_set:=mg_none_of X G b_set
  b_sorted:=mg_none_of X G b_sorted
  b_tuple:=mg_none_of X G b_tuple
  b_zip:=mg_none_of X G b_zip
  c_DipError:=by rw[q_DipError];exact mg_of X G n_DipError
  x_DipError:=by rw[q_DipError];exact x_DipError
  c_Empty:=by rw[q_Empty];exact mg_of X G n_Empty
  x_Empty:=by rw[q_Empty];exact x_Empty
 }
 have Zbk:=ZnY (st:=Zad) Zb0 Zb1 Zay
 have ZgP:=Zbk.binds (ps:=["row","fewest"]) (ds:=[]) Zbe λ_ _ _ _ _ _ us hl=>match us,hl with|[_,_],_=>⟨_,rfl,rfl⟩
 have Zf8:=Zbk.binds (ps:=["row","fewest"]) (ds:=[.int 1 Zdt]) Zbe λ_ _ _ _ _ _ us hl=>match us,(show us.length=1 from Nat.succ.inj (YJ.symm.trans hl))with|[_],_=>⟨_,rfl,rfl⟩
 have Zfi:=ZW (st:=ZaB) Zdc Zdd ZbK
 have Zij:=Zfi.binds (ps:=["many","a","b"]) λ_ _ _ _ _ _ us hl=>match us,hl with|[_,_,_],_=>rfl
 have Zi9:=ZW (st:=ZcS) ZgG ZgH Zfe
 have ZmZ:=Zi9.binds (ps:=["row","one","other"]) λ_ _ _ _ _ _ us hl=>match us,hl with|[_,_,_],_=>rfl
 have ZfS:=ZW (st:=ZaW) ZdQ ZdR Zcm
 have Zja:=ZfS.binds (ps:=["row"]) λ_ _ _ _ _ _ us hl=>match us,hl with|[_],_=>rfl
 have ZhB:=ZW (st:=ZbP) ZfC ZfD Zej
 have Zlo:=ZhB.binds (ps:=["ones","others","one","other","size"]) λ_ _ _ _ _ _ us hl=>match us,hl with|[_,_,_,_,_],_=>rfl
 have ZgQ:=ZW (st:=Zbn) ZeK ZeL Zde
 have Zj1:=ZgQ.binds (ps:=["ones","others","one","other","a","b"]) λ_ _ _ _ _ _ us hl=>match us,hl with|[_,_,_,_,_,_],_=>rfl
 have Zfj:=ZW (st:=ZaC) Zdg Zdh ZbL
 have Zik:=Zfj.binds (ps:=["entries"]) λ_ _ _ _ _ _ us hl=>match us,hl with|[_],_=>rfl
 have Zcu:=ZW (st:=ZU) Zbg Zbh Zar
 have Zfk:=Zcu.binds (ps:=["many","starts","others"]) λ_ _ _ _ _ _ us hl=>match us,hl with|[_,_,_],_=>rfl
 have Zec:=ZW (st:=Zae) Zb3 Zb4 Zbi
 have ZgR:=Zec.binds (ps:=["row","text","starts","others"]) λ_ _ _ _ _ _ us hl=>match us,hl with|[_,_,_,_],_=>rfl
 have ZfT:=ZW (st:=ZaX) ZdU ZdV Zco
 have Zjb:=ZfT.binds (ps:=["cell"]) λ_ _ _ _ _ _ us hl=>match us,hl with|[_],_=>rfl
 have ZfU:=ZW (st:=ZaY) ZdX ZdY Zcp
 have Zjc:=ZfU.binds (ps:=["pot","many"]) λ_ _ _ _ _ _ us hl=>match us,hl with|[_,_],_=>rfl
 have Zes:=ZW (st:=Zan) ZcF ZcG Zbv
 have Zhd:=Zes.binds (ps:=["pot","many"]) λ_ _ _ _ _ _ us hl=>match us,hl with|[_,_],_=>rfl
 have ZgS:=ZW (st:=Zbo) ZeO ZeP Zdi
 have Zj2:=ZgS.binds (ps:=["pot","most"]) λ_ _ _ _ _ _ us hl=>match us,hl with|[_,_],_=>rfl
 have ZfV:=ZW (st:=ZaZ) Zd0 Zd1 Zcq
 have Zjd:=ZfV.binds (ps:=["row"]) λ_ _ _ _ _ _ us hl=>match us,hl with|[_],_=>rfl
 have ZfW:=ZW (st:=Za0) Zd3 Zd4 Zcr
 have Zje:=ZfW.binds (ps:=["tree","place"]) λ_ _ _ _ _ _ us hl=>match us,hl with|[_,_],_=>rfl
 have ZfX:=ZW (st:=Za1) Zd6 Zd7 Zcs
 have Zjf:=ZfX.binds (ps:=["tree"]) λ_ _ _ _ _ _ us hl=>match us,hl with|[_],_=>rfl
 have ZgT:=ZW (st:=Zbp) ZeR ZeS Zdj
 have Zj3:=ZgT.binds (ps:=["one","other"]) λ_ _ _ _ _ _ us hl=>match us,hl with|[_,_],_=>rfl
 have Zed:=ZW (st:=Zaf) Zb6 Zb7 Zbj
 have ZgU:=Zed.binds (ps:=["pot","row"]) λ_ _ _ _ _ _ us hl=>match us,hl with|[_,_],_=>rfl
 have ZfY:=ZW (st:=Za2) Zea Zeb Zct
 have Zjg:=ZfY.binds (ps:=["pot","row"]) λ_ _ _ _ _ _ us hl=>match us,hl with|[_,_],_=>rfl
 have ZgV:=ZW (st:=Zbq) ZeU ZeV Zdk
 have Zj4:=ZgV.binds (ps:=["row","a","b"]) λ_ _ _ _ _ _ us hl=>match us,hl with|[_,_,_],_=>rfl
 have Zfl:=ZW (st:=ZaD) Zdm Zdn ZbM
 have Zil:=Zfl.binds (ps:=["pot","row","text"]) λ_ _ _ _ _ _ us hl=>match us,hl with|[_,_,_],_=>rfl
 have Zfm:=ZW (st:=ZaE) Zdp Zdq ZbN
 have Zim:=Zfm.binds (ps:=["numbers"]) λ_ _ _ _ _ _ us hl=>match us,hl with|[_],_=>rfl
 have ZgW:=ZW (st:=Zbr) ZeX ZeY Zdr
 have Zj5:=ZgW.binds (ps:=["row","text","starts","others"]) λ_ _ _ _ _ _ us hl=>match us,hl with|[_,_,_,_],_=>rfl
 have Zb9:=ZW (st:=ZQ) ZaT ZaU Zah
 have ZeZ:=Zb9.binds (ps:=["starts","others","way","at","spot","sizes"]) λ_ _ _ _ _ _ us hl=>match us,hl with|[_,_,_,_,_,_],_=>rfl
 have Zet:=ZW (st:=Zao) ZcI ZcJ Zbw
 have Zhe:=Zet.binds (ps:=["pot","row","text","starts","others"]) λ_ _ _ _ _ _ us hl=>match us,hl with|[_,_,_,_,_],_=>rfl
 have ZpW:=ZW (st:=Zfa) ZmV ZmX ZmY
 refine⟨fnOf "law" "law" (defArgs Zfa) (defBody Zfa) (defScope Zfa) .none ZpJ ZpK ZpL ZpM ZmW ZpN,λs v=>.of_eq rfl,λbase _ _=>?_⟩
 have Zm0:Callee l.prog w K mg base "need_numbers" 1 ["row","fewest"] (ZaL K mg):=⟨_,_,mg_of X G Zbd,Zay,ZgP,Zds Zbk T⟩
 have ZbE:Zh0 l.prog w K mg base "need_numbers" 1 ["row","fewest"] [V.int 1] (ZaL K mg):=⟨_,_,_,mg_of X G Zbd,Zay,Zf8,.cons ⟨_,rfl⟩ .nil,Zds Zbk T⟩
 have Zc8:Callee l.prog w K mg base "is_stretch" 1 ["many","a","b"] (Zcz K mg):=⟨_,_,mg_of X G Zdb,ZbK,Zij,Zg6 Zfi T⟩
 have ZgD:Callee l.prog w K mg base "lesser" 1 ["row","one","other"] (Zfz K mg):=⟨_,_,mg_of X G ZgF,Zfe,ZmZ,Zlm Zi9 T⟩
 have Zcl:Callee l.prog w K mg base "low_steps" 2 ["row"] (Zc7 K mg):=⟨_,_,mg_of X G ZdP,Zcm,Zja,Zia ZfS ZgD T⟩
 have ZfA:Callee l.prog w K mg base "parting" 1 ["ones","others","one","other","size"] (ZeC K mg):=⟨_,_,mg_of X G ZfB,Zej,Zlo,ZjR ZhB T⟩
 have ZeF:Callee l.prog w K mg base "parts_at" 1 ["ones","others","one","other","a","b"] (ZdH K mg):=⟨_,_,mg_of X G ZeJ,Zde,Zj1,Zi1 ZgQ T⟩
 have Zc9:Callee l.prog w K mg base "all_tuples" 1 ["entries"] (ZcA K mg):=⟨_,_,mg_of X G Zdf,ZbL,Zik,Zg5 Zfj T⟩
 have Zbb:Callee l.prog w K mg base "each_start_once" 1 ["many","starts","others"] (ZaP K mg):=⟨_,_,mg_of X G Zbf,Zar,Zfk,ZeE Zcu T⟩
 have Zbc:Callee l.prog w K mg base "starts_right" 3 ["row","text","starts","others"] (ZbD K mg):=⟨_,_,mg_of X G Zb2,Zbi,ZgR,Zf3 Zec ZbE Zc8 Zcl ZfA ZeF Zc9 Zbb T⟩
 have ZdM:Callee l.prog w K mg base "_law_deal" 1 ["cell"] (Zc2 K mg):=⟨_,_,mg_of X G ZdT,Zco,Zjb,Zh5 ZfT T⟩
 have Zi:Callee l.prog w K mg base "_law_take" 1 ["pot","many"] (ZY K mg):=⟨_,_,mg_of X G ZdW,Zcp,Zjc,Zh6 ZfU T⟩
 have ZcD:Callee l.prog w K mg base "_law_unlike" 2 ["pot","many"] (ZbU K mg):=⟨_,_,mg_of X G ZcE,Zbv,Zhd,ZgB Zes Zi T⟩
 have ZeH:Callee l.prog w K mg base "_law_row" 3 ["pot","most"] (ZdF K mg):=⟨_,_,mg_of X G ZeN,Zdi,Zj2,ZiY ZgS Zi ZcD T⟩
 have ZdK:Callee l.prog w K mg base "_law_tree" 1 ["row"] (Zc3 K mg):=⟨_,_,mg_of X G ZdZ,Zcq,Zjd,Zh7 ZfV T⟩
 have ZdJ:Callee l.prog w K mg base "_law_over" 1 ["tree","place"] (Zc4 K mg):=⟨_,_,mg_of X G Zd2,Zcr,Zje,Zh8 ZfW T⟩
 have ZdL:Callee l.prog w K mg base "_law_flat" 2 ["tree"] (Zc5 K mg):=⟨_,_,mg_of X G Zd5,Zcs,Zjf,Zh9 ZfX ZdJ T⟩
 have ZbZ:Callee l.prog w K mg base "_law_kin_row" 3 ["pot","row"] (ZbC K mg):=⟨_,_,mg_of X G Zb5,Zbj,ZgU,Zf2 Zed Zi ZdK ZdL T⟩
 have ZdN:Callee l.prog w K mg base "_law_text" 4 ["pot","row"] (Zc6 K mg):=⟨_,_,mg_of X G Zd9,Zct,Zjg,Zib ZfY Zi ZbZ T⟩
 have Zax:Callee l.prog w K mg base "_law_low" 1 ["row","a","b"] (Zcj K mg):=⟨_,_,mg_of X G ZeT,Zdk,Zj4,Zi0 ZgV T⟩
 have Zda:Callee l.prog w K mg base "_law_paper" 2 ["pot","row","text"] (ZcB K mg):=⟨_,_,mg_of X G Zdl,ZbM,Zil,Zg8 Zfl Zi Zax T⟩
 have ZeG:Callee l.prog w K mg base "_law_kin" 1 ["one","other"] (ZdG K mg):=⟨_,_,mg_of X G ZeQ,Zdj,Zj3,ZiZ ZgT T⟩
 have ZbJ:Callee l.prog w K mg base "_law_rises" 1 ["numbers"] (ZcC K mg):=⟨_,_,mg_of X G Zdo,ZbN,Zim,Zg7 Zfm T⟩
 have ZeI:Callee l.prog w K mg base "_law_due" 2 ["row","text","starts","others"] (ZdI K mg):=⟨_,_,mg_of X G ZeW,Zdr,Zj5,Zi2 ZgW ZeG Zax ZbJ T⟩
 have ZaR:Callee l.prog w K mg base "_law_from_behind" 1 ["starts","others","way","at","spot","sizes"] (ZaH K mg):=⟨_,_,mg_of X G ZaS,Zah,ZeZ,Zel Zb9 T⟩
 have Zbu:Callee l.prog w K mg base "_law_spoilt" 2 ["pot","row","text","starts","others"] (ZbV K mg):=⟨_,_,mg_of X G ZcH,Zbw,Zhe,ZgC Zet Zi ZaR T⟩
 exact ok_law ZpW Zbc ZdM Zi ZeH ZdN Zda ZeI Zbu T
theorem walk {l:PySem.W.OpenLaw}{q:Program}{loose:List Str}{XP:(Str->Option Value)->Heap->Prop}{YP:World->Heap->Prop}{d:DefRec}{K:Params->PySem.W.Frag} (hn:l.most=some 63) (hdf:d.params.defaults=[])
  (hY:∀(w:World) (h:Heap),YP w h->(K w.params).In h)
  (F:∀(w:World) (mg:Str->Option Value) (fa:Addr) (h:Heap),(K w.params).In h->h.Ns mainGlobals mg->mg d.name=some (.ref fa) ->
   ∃fd:FuncData,(∀(s:Shared) (u:Value),BindsTo s fd ⟨[u],[]⟩ [("script",u)])/\∀base:Heap,(K w.params).In base->base.Ns mainGlobals mg->FnOk l.prog w (K w.params) mg base (CXE l.prog w) 5 fa fd ["script"] (ZkE (K w.params))) :
  PySem.W.WalkO q loose XP YP l.row.toRowW d [] (λf vs=>PySem.call f vs) :=
 L2.ZnC (n:=63) (k:=5) (x:="script") (CX:=λw=>CXE l.prog w) (sp:=λw=>ZkE (K w.params)) hn (by decide) hdf ⟨rfl,by decide,by decide⟩ hY F (λ_ _ a ns hl _ hS=>⟨a,ns,rfl,hS,hl,λ_=>rfl⟩) λ_ _ _ _ _ ⟨_,_,_,_,_,_,_,z⟩=>z
end K40
def PySem.W.Fast.tw987618522050353511:Unit:=()
def PySem.W.Fast.tw4639022593694082747:Unit:=()
def PySem.W.Fast.tw6894263565187356767:Unit:=()
def PySem.W.Fast.tw3963475253359699476:Unit:=()
def PySem.W.Fast.tw3108821470191702770:Unit:=()
def PySem.W.Fast.tw12809314150885092867:Unit:=()
def PySem.W.Fast.tw9141237582521514791:Unit:=()
def PySem.W.Fast.tw15189023261548460044:Unit:=()
def PySem.W.Fast.tw2620697018594373695:Unit:=()
def PySem.W.Fast.tw5281777900095255165:Unit:=()
def PySem.W.Fast.tw8994983349115356971:Unit:=()
def PySem.W.Fast.tw10902391645161126176:Unit:=()
def PySem.W.Fast.tw8229038987787289065:Unit:=()
def PySem.W.Fast.tw11116502985617100314:Unit:=()
def PySem.W.Fast.tw12669270360624622295:Unit:=()
def PySem.W.Fast.tw122961108430846296:Unit:=()
def PySem.W.Fast.tw382995738301547650:Unit:=()
def PySem.W.Fast.tw14611883836534083847:Unit:=()
def PySem.W.Fast.tw1529822245100040849:Unit:=()
def PySem.W.Fast.tw17725876020637651824:Unit:=()
def PySem.W.Fast.tw9469929558120170826:Unit:=()
def PySem.W.Fast.tw16644872135890538256:Unit:=()
def PySem.W.Fast.tw8098518348026304365:Unit:=()
def PySem.W.Fast.tw9991171557306369390:Unit:=()
def PySem.W.Fast.tw3584850458941285680:Unit:=()
def PySem.W.Fast.tw13916891676489816234:Unit:=()
def PySem.W.Fast.tw7482953214220963873:Unit:=()
def PySem.W.Fast.tw6401960917563964457:Unit:=()
def PySem.W.Fast.tw14737036499236917628:Unit:=()
def PySem.W.Fast.tw15223713997951226036:Unit:=()
def PySem.W.Fast.tw2734701248735194411:Unit:=()
def PySem.W.Fast.tw12712550522527077715:Unit:=()
def PySem.W.Fast.tw7867975152991972263:Unit:=()
def PySem.W.Fast.tw12139868861599106727:Unit:=()
def PySem.W.Fast.tw990765868832294954:Unit:=()
def PySem.W.Fast.tw8387062272425767434:Unit:=()
def PySem.W.Fast.tw2010449966340016348:Unit:=()
def PySem.W.Fast.tw10821581412221548414:Unit:=()
def PySem.W.Fast.tw16508280932151104012:Unit:=()
def PySem.W.Fast.tw15466701776902897268:Unit:=()
def PySem.W.Fast.tw2988006235159485851:Unit:=()
def PySem.W.Fast.tw16723363090820076873:Unit:=()
def PySem.W.Fast.tw2898446765767190844:Unit:=()
def PySem.W.Fast.tw13769574090794280093:Unit:=()
def PySem.W.Fast.tw1052543128643981807:Unit:=()
def PySem.W.Fast.tw1659649812957632353:Unit:=()
def PySem.W.Fast.tw12496416608592861577:Unit:=()
def PySem.W.Fast.tw13719385345233547688:Unit:=()
def PySem.W.Fast.tw11185737255728505625:Unit:=()
def PySem.W.Fast.tw1507399265633294857:Unit:=()
def PySem.W.Fast.tw3078653135142275769:Unit:=()
def PySem.W.Fast.tw17347665801206588682:Unit:=()
def PySem.W.Fast.tw9011126917902793910:Unit:=()
def PySem.W.Fast.tw15528989176704193047:Unit:=()
def PySem.W.Fast.tw4653148442427410406:Unit:=()
def PySem.W.Fast.tw13779691561045797739:Unit:=()
def PySem.W.Fast.tw14143651214257744603:Unit:=()
def PySem.W.Fast.tw6857527536862014770:Unit:=()
def PySem.W.Fast.tw5902577914683134192:Unit:=()
def PySem.W.Fast.tw16821581327466768214:Unit:=()
def PySem.W.Fast.tw10041158162632189373:Unit:=()
def PySem.W.Fast.tw16910454517964852761:Unit:=()
def PySem.W.Fast.tw15321672094717052395:Unit:=()
def PySem.W.Fast.tw9438176965805966636:Unit:=()
def PySem.W.Fast.tw849044367679982466:Unit:=()
def PySem.W.Fast.tw2912277341685694545:Unit:=()
def PySem.W.Fast.tw4928418410242456029:Unit:=()
def PySem.W.Fast.tw4305820244245583704:Unit:=()
def PySem.W.Fast.tw13415345765664158623:Unit:=()
def PySem.W.Fast.tw9980455238681577006:Unit:=()
def PySem.W.Fast.tw3948402993004133266:Unit:=()
def PySem.W.Fast.tw6916752015161635272:Unit:=()
def PySem.W.Fast.tw15205015666906226124:Unit:=()
def PySem.W.Fast.tw18095563164302739624:Unit:=()
open PySem PySem.W PyProof.Rows
set_option maxRecDepth 100000 in
set_option maxHeartbeats 0 in
theorem PySem.Challenge.cw_dipkin_k40_starts_judged_holds : PySem.Challenge.rw_dipkin_k40_starts_judged.Holds := by
 w_on;o_law;k_head;(case hw=>w_witness2)
 k_fill
 refine K40.walk (l:=PySem.Challenge.rw_dipkin_k40_starts_judged) rfl rfl (λw h Y=>PySem.W.kIn_of Y) ?F
 case F =>
  intro w mg fa h KX G hmg
  refine' K40.all_mk KX G hmg ?Zbd ?Zb0 ?Zb1 ?Zay ?Zbe ?Zdb ?Zdc ?Zdd ?ZbK ?ZgF ?ZgG ?ZgH ?Zfe ?ZdP ?ZdQ ?ZdR ?Zcm ?ZfB ?ZfC ?ZfD ?Zej ?ZeJ ?ZeK ?ZeL ?Zde ?Zdf ?Zdg ?Zdh ?ZbL ?Zbf ?Zbg ?Zbh ?Zar ?Zb2 ?Zb3 ?Zb4 ?Zbi ?ZdT ?ZdU ?ZdV ?Zco ?ZdW ?ZdX ?ZdY ?Zcp ?ZcE ?ZcF ?ZcG ?Zbv ?ZeN ?ZeO ?ZeP ?Zdi ?ZdZ ?Zd0 ?Zd1 ?Zcq ?Zd2 ?Zd3 ?Zd4 ?Zcr ?Zd5 ?Zd6 ?Zd7 ?Zcs ?ZeQ ?ZeR ?ZeS ?Zdj ?Zb5 ?Zb6 ?Zb7 ?Zbj ?Zd9 ?Zea ?Zeb ?Zct ?ZeT ?ZeU ?ZeV ?Zdk ?Zdl ?Zdm ?Zdn ?ZbM ?Zdo ?Zdp ?Zdq ?ZbN ?ZeW ?ZeX ?ZeY ?Zdr ?ZaS ?ZaT ?ZaU ?Zah ?ZcH ?ZcI ?ZcJ ?Zbw ?ZmU ?ZmV ?ZmX ?ZmY ?n_DipError ?x_DipError ?d_DipError ?y_DipError ?n_Empty ?x_Empty ?d_Empty ?y_Empty ?b_all ?b_bool ?b_enumerate ?b_int ?b_isinstance ?b_len ?b_list ?b_max ?b_min ?b_range ?b_set ?b_sorted ?b_tuple ?b_zip
  (case Zbd|Zb0|Zb1|Zay|Zbe|Zdb|Zdc|Zdd|ZbK|ZgF|ZgG|ZgH|Zfe|ZdP|ZdQ|ZdR|Zcm|ZfB|ZfC|ZfD|Zej|ZeJ|ZeK|ZeL|Zde|Zdf|Zdg|Zdh|ZbL|Zbf|Zbg|Zbh|Zar|Zb2|Zb3|Zb4|Zbi|ZdT|ZdU|ZdV|Zco|ZdW|ZdX|ZdY|Zcp|ZcE|ZcF|ZcG|Zbv|ZeN|ZeO|ZeP|Zdi|ZdZ|Zd0|Zd1|Zcq|Zd2|Zd3|Zd4|Zcr|Zd5|Zd6|Zd7|Zcs|ZeQ|ZeR|ZeS|Zdj|Zb5|Zb6|Zb7|Zbj|Zd9|Zea|Zeb|Zct|ZeT|ZeU|ZeV|Zdk|Zdl|Zdm|Zdn|ZbM|Zdo|Zdp|Zdq|ZbN|ZeW|ZeX|ZeY|Zdr|ZaS|ZaT|ZaU|Zah|ZcH|ZcI|ZcJ|Zbw|ZmU|ZmV|ZmX|ZmY|n_DipError=>k_is)
  (case x_DipError=>k_exc)
  (case d_DipError|y_DipError|n_Empty=>k_is)
  (case x_Empty=>k_exc)
  (case d_Empty|y_Empty|b_all|b_bool|b_enumerate|b_int|b_isinstance|b_len|b_list|b_max|b_min|b_range|b_set|b_sorted|b_tuple|b_zip=>k_is)
