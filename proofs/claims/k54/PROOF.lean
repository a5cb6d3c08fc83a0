import PyProof.Rows.All
import Wide.All
import OpenK.AllK
import Wide.FinOn
import Lean
import PyProof.EqAt
import PyProof.EqKinds
import PyProof.TupleCall
import PyProof.MeetsSeq
import PyProof.NeKinds
import PyProof.TupleOfSeq
import PyProof.ListRange
import PyProof.TupleOfGen
import PyProof.ZipIter
import KE.KRevIter
import PyProof.StrWalks
import PyProof.StrBlock2
import PyProof.MeetsStr
import PyProof.StrCalls2
import PyProof.StrLawsIn
import KE.KIntText
import PyProof.StrLawsTight
import PyProof.StrLawsChain
import PyProof.StrLawsAffix
import PyProof.Rows.StrItems
import PyProof.Rows.ReprOcc
import KE.KDictSum
import PyProof.Rows.SeqMore
import KE.KDictList
import KE.KStateDown
import PyProof.StrBlockI
import PyProof.FactsAll.NoneType_1
import PyProof.FString2
import PySem.Challenge.RW_dipkin_k54_tuples_counted
set_option Elab.async false
set_option linter.all false
set_option maxRecDepth 100000
set_option maxHeartbeats 4000000
set_option genSizeOfSpec false
local macro_rules | `(tactic| omega) => `(tactic| first | lia | omega (config := {}))
section
open PySem PySem.Spec PyProof.Rows
noncomputable abbrev Ya:=@if_neg
noncomputable abbrev Yb:=@wpAny_bind
noncomputable abbrev Yc:=@if_pos
noncomputable abbrev Yd:=@Nat.le_refl
noncomputable abbrev Ye:=@List.getElem?_eq_getElem
noncomputable abbrev Yf:=@List.length_map
noncomputable abbrev Yg:=@wpAny_pure
noncomputable abbrev Yh:=@Nat.le_trans
noncomputable abbrev Yi:=@Heap.lt_size
noncomputable abbrev Yj:=@List.size_toArray
noncomputable abbrev Yk:=@List.getElem?_eq_some_iff
noncomputable abbrev Yl:=@List.mem_cons
noncomputable abbrev Ym:=@Heap.get?_push_of_some
noncomputable abbrev Yn:=@List.length_cons
noncomputable abbrev Yo:=@Nat.ne_of_lt
noncomputable abbrev Yp:=@Nat.lt_of_lt_of_le
noncomputable abbrev Yq:=@List.mem_append
noncomputable abbrev Yr:=@List.getD_eq_getElem?_getD
noncomputable abbrev Ys:=@Bool.false_ne_true
noncomputable abbrev Yt:=@List.mem_append_right
noncomputable abbrev Yu:=@Nat.zero_le
noncomputable abbrev Yv:=@PySem.boot_len
noncomputable abbrev Yw:=@Nat.lt_of_le_of_lt
noncomputable abbrev Yy:=@List.length_append
noncomputable abbrev Yz:=@Heap.get?_push_size
noncomputable abbrev YA:=@Option.some.inj
noncomputable abbrev YB:=@List.map_cons
noncomputable abbrev YC:=@List.mem_range
noncomputable abbrev YD:=@List.append_assoc
noncomputable abbrev YE:=@Nat.lt_irrefl
noncomputable abbrev YF:=@List.mem_singleton
noncomputable abbrev YG:=@List.mem_map
noncomputable abbrev YH:=@wpAny_mono
noncomputable abbrev YI:=@decide_eq_false
noncomputable abbrev YJ:=@List.mem_append_left
noncomputable abbrev YK:=@List.getElem?_map
noncomputable abbrev YL:=@decide_eq_true
noncomputable abbrev YM:=@List.map_append
noncomputable abbrev YN:=@List.mem_cons_of_mem
noncomputable abbrev YO:=@List.mem_filter
noncomputable abbrev YQ:=@Nat.le_of_lt
noncomputable abbrev YR:=@Array.length_toList
noncomputable abbrev YS:=@List.range_succ
noncomputable abbrev YT:=@List.getElem_mem
noncomputable abbrev YU:=@Nat.lt_succ_of_lt
noncomputable abbrev YV:=@List.map_map
noncomputable abbrev YW:=@List.getElem?_append_right
noncomputable abbrev YX:=@List.getElem?_append_left
noncomputable abbrev YY:=@List.mem_cons_self
noncomputable abbrev YZ:=@List.length_take
noncomputable abbrev Y1:=@List.pairwise_cons
noncomputable abbrev Y2:=@List.length_filter_le
noncomputable abbrev Y3:=@List.length_drop
noncomputable abbrev Y4:=@Int.eq_ofNat_of_zero_le
noncomputable abbrev Y5:=@List.length_range
noncomputable abbrev Y6:=@Int.toNat_natCast
noncomputable abbrev Y7:=@List.take_add_one
noncomputable abbrev Y8:=@List.take_append_drop
noncomputable abbrev Y9:=@List.getElem_append_left
noncomputable abbrev Ja:=@List.getElem_append_right
end
namespace L2
open PySem PySem.Spec PyProof.Rows
noncomputable abbrev Key:=Sum Int Str
noncomputable def Zgj:Key->Value->Bool
 |.inl k,v=>Value.isInt k v
 |.inr x,v=>Value.isStrOf x v
noncomputable def keyH (w:World):Key->Int
 |.inl k=>hashInt k
 |.inr x=>hashStr w x
theorem ZM:∀{k:Key}{v:Value},Zgj k v=true->(∃i t,k=Sum.inl i/\v=Value.int i t)\/(∃x t,k=Sum.inr x/\v=Value.str x t)
 |.inl i,v,h=>by
  obtain⟨t,e⟩:=Value.isInt_shape (k:=i) (v:=v) h
  exact .inl ⟨i,t,rfl,e⟩
 |.inr x,v,h=>by
  obtain⟨t,e⟩:=Value.isStrOf_shape (x:=x) (v:=v) h
  exact .inr ⟨x,t,rfl,e⟩
theorem Zjm (i:Int) (t:Tok):Zgj (.inl i) (.int i t)=true:=by simp[Zgj,Value.isInt]
theorem Zjn (x:Str) (t:Tok):Zgj (.inr x) (.str x t)=true:=by simp[Zgj,Value.isStrOf]
theorem key_ll (a b:Int):decide ((Sum.inl a:Key)=Sum.inl b)=(a==b):=by
 by_cases e:a=b
 ·subst e;simp
 ·have h:¬ (Sum.inl a:Key)=Sum.inl b:=λq=>e (Sum.inl.inj q)
  rw[YI h]
  exact(beq_eq_false_iff_ne.mpr e).symm
theorem key_rr (a b:Str):decide ((Sum.inr a:Key)=Sum.inr b)=decide (a=b):=by
 by_cases e:a=b
 ·subst e;simp
 ·have h:¬ (Sum.inr a:Key)=Sum.inr b:=λq=>e (Sum.inr.inj q)
  rw[YI h,YI e]
theorem key_lr (a:Int) (b:Str):decide ((Sum.inl a:Key)=Sum.inr b)=false:=YI (λq=>nomatch q)
theorem key_rl (a:Str) (b:Int):decide ((Sum.inr a:Key)=Sum.inl b)=false:=YI (λq=>nomatch q)
noncomputable def Zae (prog:Program) (w:World):PySem.KeyKind prog w Key where
 is:=Zgj
 hash:=keyH w
 inj:=λv a b ha hb=>by
  rcases ZM ha with⟨i,t,rfl,rfl⟩|⟨x,t,rfl,rfl⟩
  ·rcases ZM hb with⟨j,u,rfl,e⟩|⟨y,u,rfl,e⟩
   ·injection e with e1 _;rw[e1]
   ·exact nomatch e
  ·rcases ZM hb with⟨j,u,rfl,e⟩|⟨y,u,rfl,e⟩
   ·exact nomatch e
   ·injection e with e1 _;rw[e1]
 byValue:=λk v h=>by
  rcases ZM h with⟨i,t,rfl,rfl⟩|⟨x,t,rfl,rfl⟩<;>rfl
 pyHash:=λhv h=>by
  rcases ZM hv with⟨i,t,rfl,rfl⟩|⟨x,t,rfl,rfl⟩
  ·exact wpAny_pyHash_int h
  ·exact wpAny_pyHash_str h
 eqBool:=λhu hv h=>by
  rcases ZM hu with⟨i,t,rfl,rfl⟩|⟨x,t,rfl,rfl⟩
  ·rcases ZM hv with⟨j,u,rfl,rfl⟩|⟨y,u,rfl,rfl⟩
   ·rw[key_ll]at h;exact wpAny_eqBool_int h
   ·rw[key_lr]at h;exact SeqAt.EqAt.int_str i t y u _ _ _ _ h
  ·rcases ZM hv with⟨j,u,rfl,rfl⟩|⟨y,u,rfl,rfl⟩
   ·rw[key_rl]at h;exact SeqAt.EqAt.str_int x t j u _ _ _ _ h
   ·rw[key_rr]at h;exact wpAny_eqBool_str h
 «strs»:=λk x t v h=>by
  rcases ZM h with⟨i,u,rfl,e⟩|⟨y,u,rfl,e⟩
  ·exact nomatch e
  ·injection e with e1 _
   subst e1
   cases v<;>rfl
theorem Zho (prog:Program) (w:World) (i:Int) (t:Tok):(Zae prog w).is (.inl i) (.int i t)=true:=Zjm i t
theorem Zhp (prog:Program) (w:World) (x:Str) (t:Tok):(Zae prog w).is (.inr x) (.str x t)=true:=Zjn x t
inductive V where
 |non|bl (b:Bool)|int (i:Int)|str (x:Str)|byt (b:Array UInt8)|flt (b:UInt64)|ref (a:Addr)|ty (n:String)
 deriving DecidableEq
noncomputable def RelV:V->Value->Prop
 |.non,u=>u=Value.none
 |.bl b,u=>u=Value.bool b
 |.int i,u=>∃t,u=Value.int i t
 |.str x,u=>∃t,u=Value.str x t
 |.byt b,u=>∃t,u=Value.bytes b t
 |.flt b,u=>∃t,u=Value.float b t
 |.ref a,u=>u=Value.ref a
 |.ty n,u=>u=Value.type n
noncomputable abbrev Vals:List V->List Value->Prop:=Paired RelV
theorem Vals.length {xs:List V}{us:List Value} (r:Vals xs us):xs.length=us.length:=Paired.length r
theorem Vals.get:∀{xs:List V}{us:List Value}{i:Nat}{x:V},Vals xs us->xs[i]?=some x->∃u,us[i]?=some u/\RelV x u
 |_,_,_,_,.nil,e=>by simp at e
 |_,_,0,_,.cons r _,e=>by simp at e;subst e;exact⟨_,rfl,r⟩
 |_,_,i+1,x,.cons _ t,e=>by
  obtain⟨u,h1,h2⟩:=Vals.get (i:=i) (x:=x) t (by simpa using e)
  exact⟨u,by simpa using h1,h2⟩
theorem Vals.set {x:V}{u:Value} (r:RelV x u):∀{xs:List V}{us:List Value} (i:Nat),Vals xs us->Vals (xs.set i x) (us.set i u)
 |_,_,_,.nil=>.nil
 |_,_,0,.cons _ t=>.cons r t
 |_,_,i+1,.cons q t=>.cons q (Vals.set r i t)
theorem Vals.append:∀{xs ys:List V}{us ws:List Value},Vals xs us->Vals ys ws->Vals (xs++ys) (us++ws)
 |_,_,_,_,.nil,s=>s
 |_,_,_,_,.cons r t,s=>.cons r (Vals.append t s)
theorem Vals.take:∀{xs:List V}{us:List Value} (n:Nat),Vals xs us->Vals (xs.take n) (us.take n)
 |_,_,0,_=>.nil
 |_,_,_+1,.nil=>.nil
 |_,_,n+1,.cons r t=>.cons r (Vals.take n t)
theorem Vals.drop:∀{xs:List V}{us:List Value} (n:Nat),Vals xs us->Vals (xs.drop n) (us.drop n)
 |_,_,0,r=>r
 |_,_,_+1,.nil=>.nil
 |_,_,n+1,.cons _ t=>Vals.drop n t
noncomputable def Zds:Option V->Option Value->Prop
 |some v,some u=>RelV v u
 |none,none=>True
 |_,_=>False
noncomputable def KV {κ:Type}:List (κ×V)->List (κ×Value)->Prop:=Paired λ(p:κ×V) (q:κ×Value)=>p.1=q.1/\RelV p.2 q.2
noncomputable def kV:Key->V
 |.inl i=>.int i
 |.inr x=>.str x
inductive HO where
 |lst (xs:List V)
 |tup (xs:List V)
 |dK (kvs:List (Key×V))|dT (kvs:List (List Key×V))
 |set (S:Int->Bool) (n:Nat)
 |ins (C dx:Addr) (fs:List (Str×V))
 |own (x:Addr)
 |xd (fs:List (Str×V))
 |met (f x:Addr)
 |rng (lo hi:Int)
 |frz (o:Obj) (u:HO)
 |tbl (ps:Array Value)
 |ext (φ:Heap->Prop)
noncomputable abbrev Hp:=Addr->Option HO
noncomputable def upd (H:Hp) (a:Addr) (o:HO):Hp:=λb=>if b=a then some o else H b
theorem Zc {H:Hp}{a:Addr}{o:HO}:upd H a o a=some o:=by unfold upd;rw[Yc rfl]
theorem Zh {H:Hp}{a b:Addr}{o:HO} (h:b≠a):upd H a o b=H b:=by unfold upd;rw[Ya h]
theorem ne_of {H:Hp}{a b:Addr}{o u:HO} (h:H a=some o) (h':H b=some u) (d:o≠u):a≠b:=by
 intro e;subst e;rw[h]at h';exact d (YA h')
theorem Zx {H:Hp}{a b:Addr}{o:HO} (h:H a=some o) (h':H b=none):a≠b:=by
 intro e;subst e;rw[h]at h';cases h'
section
variable (P:Program) (w:World)
noncomputable def ZJ (H:Hp) (h:Heap) (a:Addr):HO->Prop
 |.lst xs=>xs.length<=sizeLine/\∃(its:List Value) (n:Nat),Vals xs its/\h.get? a=some {cls:=.type "list",data:=.seq its.toArray n}
 |.tup xs=>xs.length<=sizeLine/\∃its:List Value,Vals xs its/\IsTup h a its.toArray
 |.dK kvs=>kvs.length<=sizeLine/\(a==sysModules)=false/\∃vs,KV kvs vs/\h.DictOf (Zae P w) a vs
 |.dT kvs=>kvs.length<=sizeLine/\(a==sysModules)=false/\∃xs:List (List Key×Addr×Value),
   Paired (λ(p:List Key×V) (q:List Key×Addr×Value)=>p.1=q.1/\H q.2.1=some (.tup (p.1.map kV))/\RelV p.2 q.2.2) kvs xs /\
   ∃o es ep,h.get? a=some o/\o.ExactDict/\o.data=.dict es ep/\es.toList=xs.map (entryOfKey (tupleKind (Zae P w)))/\(xs.map (·.1)).Nodup
 |.set S n=>h.SetOf (intKind P w) a S n
 |.ins C dx fs=>H dx=some (.own a)/\fs.length<=1000/\dx≠a/\h.get? a=some (PySem.W.instObj C dx) /\
   ∃mA,h.Ns1 dx mA/\(∀f,Zds (fs.lookup f) (mA f))/\PySem.Within mA (fs.map (·.1))
 |.own _=>∃o,h.get? a=some o
 |.xd fs=>∃mA,h.Ns1 a mA/\∀f,Zds (fs.lookup f) (mA f)
 |.rng lo hi=>∃t u v,h.get? a=some {cls:=.type "range",data:=.fields #[.int lo t,.int hi u,.int 1 v]}
 |.frz o u=>h.get? a=some o/\ZJ H h a u
 |.tbl ps=>∃ts:Array Value,h.get? a=some {cls:=.none,data:=.fields ts}/\TriplesOk ts.toList/\∀pos cv,codeAmong pos ts.toList=some cv->∃c oc vs q t t',cv=.ref c/\H c=some (.frz oc (.own a))/\oc.data=.fields vs/\ps[0]?=some (.str q t)/\vs[1]?=some (.str q t')
 |.met f x=>h.get? a=some (PySem.W.methodObj (.ref f) (.ref x))
 |.ext φ=>φ h/\(∃o,h.get? a=some o)/\∀h1 h2:Heap,φ h1->(∀o,h1.get? a=some o->h2.get? a=some o)->φ h2
noncomputable def HOk (H:Hp) (h:Heap):Prop:=∀a o,H a=some o->ZJ P w H h a o
end
section
variable {P:Program}{w:World}{H H':Hp}{h h':Heap}{a:Addr}{o:HO}
theorem ZJ.lt (x:ZJ P w H h a o):a<h.objs.size:=by
 cases o with
 |lst xs=>obtain⟨_,_,_,_,e⟩:=x;exact Yi e
 |tup xs=>obtain⟨_,_,_,p⟩:=x;exact p.lt
 |dK kvs=>obtain⟨_,_,_,_,o,_,_,e,_⟩:=x;exact Yi e
 |dT kvs=>obtain⟨_,_,_,_,o,_,_,e,_⟩:=x;exact Yi e
 |set S n=>obtain⟨o,_,_,_,e,_⟩:=x;exact Yi e
 |ins C dx fs=>obtain⟨_,_,_,e,_⟩:=x;exact Yi e
 |own y=>obtain⟨_,e⟩:=x;exact Yi e
 |xd fs=>obtain⟨_,⟨_,_,_,e,_⟩,_⟩:=x;exact Yi e
 |rng lo hi=>obtain⟨_,_,_,e⟩:=x;exact Yi e
 |frz ob u=>obtain⟨e,_⟩:=x;exact Yi e
 |tbl ps=>obtain⟨_,e,_⟩:=x;exact Yi e
 |met f y=>exact Yi (show h.get? a=some _ from x)
 |ext φ=>obtain⟨_,⟨_,e⟩,_⟩:=x;exact Yi e
theorem Paired.mapP {α β:Type}{F G:α->β->Prop}:∀{l₁:List α}{l₂:List β},Paired F l₁ l₂->(∀a b,F a b->G a b)->Paired G l₁ l₂
 |_,_,.nil,_=>.nil
 |_,_,.cons r t,f=>.cons (f _ _ r) (Paired.mapP t f)
theorem ZJ.ZgM (x:ZJ P w H h a o) (k:∀b u,(b=a\/H b=some (.own a))->h.get? b=some u->h'.get? b=some u)
  (ho:∀b,H b=some (.own a)->H' b=some (.own a)) (ht:∀b xs,H b=some (.tup xs)->H' b=some (.tup xs)) (hz:∀b o u,H b=some (.frz o u)->H' b=some (.frz o u)):ZJ P w H' h' a o:=by
 induction o with
 |lst xs=>obtain⟨z,its,n,r,e⟩:=x;exact⟨z,its,n,r,k _ _ (.inl rfl) e⟩
 |tup xs=>obtain⟨z,its,r,ob,e,c⟩:=x;exact⟨z,its,r,ob,k _ _ (.inl rfl) e,c⟩
 |dK kvs=>obtain⟨z,y,vs,r,ob,es,ep,e,c⟩:=x;exact⟨z,y,vs,r,ob,es,ep,k _ _ (.inl rfl) e,c⟩
 |dT kvs =>
  obtain⟨z,y,xs,r,ob,es,ep,e,c⟩:=x
  exact⟨z,y,xs,Paired.mapP r λp q z=>⟨z.1,ht _ _ z.2.1,z.2.2⟩,ob,es,ep,k _ _ (.inl rfl) e,c⟩
 |set S n=>obtain⟨ob,es,ep,t,e,c⟩:=x;exact⟨ob,es,ep,t,k _ _ (.inl rfl) e,c⟩
 |ins C dx fs =>
  obtain⟨d,z,ne,e,mA,⟨od,es,ep,e2,c⟩,r⟩:=x
  exact⟨ho _ d,z,ne,k _ _ (.inl rfl) e,mA,⟨od,es,ep,k _ _ (.inr d) e2,c⟩,r⟩
 |own y=>obtain⟨ob,e⟩:=x;exact⟨ob,k _ _ (.inl rfl) e⟩
 |xd fs=>obtain⟨mA,⟨od,es,ep,e,c⟩,r⟩:=x;exact⟨mA,⟨od,es,ep,k _ _ (.inl rfl) e,c⟩,r⟩
 |rng lo hi=>obtain⟨t,u,v,e⟩:=x;exact⟨t,u,v,k _ _ (.inl rfl) e⟩
 |frz ob u ih=>obtain⟨e,q⟩:=x;exact⟨k _ _ (.inl rfl) e,ih q⟩
 |tbl ps =>
  obtain⟨ts,e,t3,z⟩:=x
  refine⟨ts,k a _ (.inl rfl) e,t3,λpos cv hc=>?_⟩
  obtain⟨c,oc,vs,q,t,t',e1,e2,r⟩:=z pos cv hc
  exact⟨c,oc,vs,q,t,t',e1,hz _ _ _ e2,r⟩
 |met f y =>
  have e:h.get? a=some (PySem.W.methodObj (.ref f) (.ref y)):=x
  show h'.get? a=some (PySem.W.methodObj (.ref f) (.ref y))
  exact k a _ (.inl rfl) e
 |ext φ=>obtain⟨p,⟨o,e⟩,st⟩:=x;exact⟨st _ _ p λo q=>k _ _ (.inl rfl) q,⟨o,k _ _ (.inl rfl) e⟩,st⟩
theorem HOk.lt (x:HOk P w H h) (e:H a=some o):a<h.objs.size:=(x a o e).lt
theorem HOk.fresh (x:HOk P w H h) (e:h.objs.size<=a):H a=none:=by
 cases q:H a with
 |none=>rfl
 |some u=>exact absurd (Yp (x.lt q) e) (YE _)
theorem HOk.kept (x:HOk P w H h) (k:∀b u,h.get? b=some u->h'.get? b=some u):HOk P w H h':=λa o e =>
 (x a o e).ZgM (λb u _ q=>k b u q) (λ_ q=>q) (λ_ _ q=>q) λ_ _ _ q=>q
theorem HOk.laid (x:HOk P w H h) (k:∀b u,h.get? b=some u->h'.get? b=some u) (hp:h.objs.size<=a) (new:ZJ P w (upd H a o) h' a o):HOk P w (upd H a o) h':=λb u e=>by
 have hn:=x.fresh hp
 by_cases hb:b=a
 ·subst hb;rw[Zc]at e;cases e;exact new
 ·rw[Zh hb]at e
  exact(x b u e).ZgM (λc v _ q=>k c v q) (λc q=>by rw[Zh (Zx q hn)];exact q) (λc xs q=>by rw[Zh (Zx q hn)];exact q) λc o u q=>by rw[Zh (Zx q hn)];exact q
end
noncomputable def Rd (H:Hp) (a:Addr) (u:HO):Prop:=H a=some u\/∃o,H a=some (.frz o u)
theorem Rd.ok {P:Program}{w:World}{H:Hp}{h:Heap}{a:Addr}{u:HO} (r:Rd H a u) (x:HOk P w H h):ZJ P w H h a u:=by
 rcases r with r|⟨o,r⟩
 ·exact x a u r
 ·obtain⟨_,q⟩:=x a _ r
  exact q
noncomputable def Mut:Option HO->Prop
 |some (.lst _)=>True
 |some (.dK _)=>True
 |some (.dT _)=>True
 |some (.set _ _)=>True
 |some (.ins _ _ _)=>True
 |some (.ext _)=>True
 |_=>False
section
variable {P:Program}{w:World}{H:Hp}{h h':Heap}{x e:Addr}{o':HO}
theorem HOk.write (ok:HOk P w H h) (mu:Mut (H x)) (he:e=x\/H e=some (.own x)) (k:∀b u,b≠e->h.get? b=some u->h'.get? b=some u) (heo:∃u,h'.get? e=some u)
  (new:ZJ P w (upd H x o') h' x o'):HOk P w (upd H x o') h':=λb u q=>by
 have nown:∀c y,H c=some (.own y)->c≠x:=λc y r z=>by subst z;rw[r]at mu;exact mu
 have ntup:∀c xs,H c=some (.tup xs)->c≠x:=λc xs r z=>by subst z;rw[r]at mu;exact mu
 have nfrz:∀c o u,H c=some (.frz o u)->c≠x:=λc o u r z=>by subst z;rw[r]at mu;exact mu
 by_cases hb:b=x
 ·subst hb;rw[Zc]at q;cases q;exact new
 ·rw[Zh hb]at q
  by_cases hbe:b=e
  ·have q':H b=some (.own x):=by
    rcases he with z|z
    ·exact absurd (hbe.trans z) hb
    ·rw[hbe];exact z
   rw[q]at q';cases q'
   obtain⟨v,hv⟩:=heo
   exact⟨v,by rw[hbe];exact hv⟩
  ·refine(ok b u q).ZgM (λc v hc r=>k c v ?_ r) (λc r=>by rw[Zh (nown c b r)];exact r) (λc xs r=>by rw[Zh (ntup c xs r)];exact r) λc o u r=>by rw[Zh (nfrz c o u r)];exact r
   rcases hc with rfl|hc
   ·exact hbe
   ·rintro rfl
    rcases he with z|z
    ·exact nown c b hc z
    ·rw[hc]at z;cases z;exact hb rfl
end
structure Un (fs ex:List Addr) (H H':Hp) (h h':Heap):Prop where
 keep:∀b o,h.get? b=some o->H b=none->b∉fs->b∉ex->h'.get? b=some o
 slot:∀b o,h.get? b=some o->H b=none->b∈fs->b∉ex->∃sl,h'.get? b=some {o with slots:=sl}
 free:∀b o,h.get? b=some o->H b=none->b∉ex->H' b=none
 there:∀b o,h.get? b=some o->b∉ex->∃o',h'.get? b=some o'
 tups:∀b xs,H b=some (.tup xs)->H' b=some (.tup xs)
 frzs:∀b o u,H b=some (.frz o u)->H' b=some (.frz o u)
 tbls:∀b ps,H b=some (.tbl ps)->∃more,H' b=some (.tbl (ps++more))
section
variable {fs fs' ex ex':List Addr}{H H1 H2:Hp}{h h1 h2 h':Heap}{a x e:Addr}{o:HO}
theorem Un.any (u:Un fs ex H H1 h h1) {b:Addr}{ob:Obj} (q:h.get? b=some ob) (n:H b=none) (hx:b∉ex):∃sl,h1.get? b=some {ob with slots:=sl}:=by
 by_cases hb:b∈fs
 ·exact u.slot b ob q n hb hx
 ·exact⟨ob.slots,u.keep b ob q n hb hx⟩
theorem Un.kept (k:∀b u,h.get? b=some u->h'.get? b=some u):Un fs ex H H h h' :=
 ⟨λb ob q _ _ _=>k b ob q,λb ob q _ _ _=>⟨ob.slots,k b ob q⟩,λ_ _ _ n _=>n,λb ob q _=>⟨ob,k b ob q⟩,λ_ _ q=>q,λ_ _ _ q=>q,λ_ ps q=>⟨#[],by rw[q];simp⟩⟩
theorem Un.refl:Un fs ex H H h h:=Un.kept λ_ _ q=>q
theorem Un.laid (k:∀b u,h.get? b=some u->h'.get? b=some u) (hp:h.objs.size<=a) (hn:H a=none):Un fs ex H (upd H a o) h h' where
 keep:=λb u q _ _ _=>k b u q
 slot:=λb u q _ _ _=>⟨u.slots,k b u q⟩
 free:=λb u q n _=>by rw[Zh (Yo (Yp (Yi q) hp))];exact n
 there:=λb u q _=>⟨u,k b u q⟩
 tups:=λb xs q=>by rw[Zh (Zx q hn)];exact q
 frzs:=λb u xs q=>by rw[Zh (Zx q hn)];exact q
 tbls:=λb ps q=>⟨#[],by rw[Zh (Zx q hn),q];simp⟩
theorem Un.write (mu:Mut (H x)) (he:e=x\/H e=some (.own x)) (k:∀b u,b≠e->h.get? b=some u->h'.get? b=some u) (heo:∃u,h'.get? e=some u):Un fs ex H (upd H x o) h h':=by
 have hx:∀b,H b=none->b≠x:=λb n z=>by subst z;rw[n]at mu;exact mu
 have hb:∀b,H b=none->b≠e:=λb n z=>by
  subst z
  rcases he with r|r
  ·exact hx b n r
  ·rw[n]at r;cases r
 have hm:∀b u,H b=some u->¬ Mut (some u)->b≠x:=λb u q nm z=>by subst z;rw[q]at mu;exact nm mu
 refine⟨λb u q n _ _=>k b u (hb b n) q,λb u q n _ _=>⟨u.slots,k b u (hb b n) q⟩,λb u q n _=>by rw[Zh (hx b n)];exact n,λb u q _=>?_,
  λb xs q=>by rw[Zh (hm b _ q λz=>z)];exact q,λb u xs q=>by rw[Zh (hm b _ q λz=>z)];exact q,λb ps q=>⟨#[],by rw[Zh (hm b _ q λz=>z),q];simp⟩⟩
 by_cases hbe:b=e
 ·subst hbe;exact heo
 ·exact⟨u,k b u hbe q⟩
end
noncomputable def trk (h:Heap) (H:Hp):List Addr:=(List.range h.objs.size).filter λa=>(H a).isSome
noncomputable def ZgN (h:Heap) (H:Hp):Heap:=PySem.W.hideAll h (trk h H)
theorem Zjo (h:Heap) (H:Hp):(ZgN h H).objs.size=h.objs.size:=PySem.W.hideAll_size _ _
theorem Zki {h:Heap}{H:Hp}{b:Addr}{o:Obj} (e:h.get? b=some o) (n:H b=none):(ZgN h H).get? b=some o :=
 PySem.W.hideAll_get _ e λhm=>by
  have q:(H b).isSome=true:=(YO.mp hm).2
  rw[n]at q;simp at q
theorem Zmk {h:Heap}{H:Hp}{b:Addr}{o:Obj} (e:(ZgN h H).get? b=some o):h.get? b=some o/\H b=none:=by
 have e':h.get? b=some o:=PySem.W.of_hideAll (trk h H) e
 refine⟨e',?_⟩
 cases q:H b with
 |none=>rfl
 |some x =>
  have hm:b∈trk h H:=YO.mpr ⟨YC.mpr (Yi e'),by simp[q]⟩
  have z:(ZgN h H).get? b=none:=PySem.W.hideAll_none (trk h H) hm
  rw[z]at e;cases e
noncomputable def Zml (g h:Heap) (L:Addr):List (Addr×Obj):=(List.range h.objs.size).filterMap λa=>if a=L\/(g.get? a).isSome=true then none else (h.get? a).map λo=>(a,o)
noncomputable def rest (g h:Heap) (L d:Addr):List (Addr×Obj):=(Zml g h L).filter λp=>decide (p.1≠d)
structure Mod (K:PySem.W.Frag) (mg:Str->Option Value) (base:Heap):Prop where
 kin:K.In base
 glob:base.Ns mainGlobals mg
 blt:∃mb,base.Ns builtinsNs mb/\∀x:Str,x≠"__name__"->mb x=bootBuiltins x
 nolimit:base.NoLimit
structure Cx where
 prog:Program
 w:World
 K:PySem.W.Frag
 mg:Str->Option Value
 base:Heap
 A:Around
 N:List Str
 s₀:Shared
 H₀:Hp
 env:Env
 outer:List Env
 stack:List Env
 ex:List Addr
 fn:Str->Bool
 calm:Bool
 pn:List (Addr×Obj)
 xe:Value->Shared->Prop
noncomputable def frs (l:List Env):List Addr:=l.filterMap (·.frame)
noncomputable abbrev Cx.fs (X:Cx):List Addr:=frs X.outer
noncomputable def Vis (sc:Scope) (x:Str):Prop:=sc.names.lookup x=some .local\/sc.names.lookup x=some .cell\/sc.names.lookup x=some .free
noncomputable def Loc (sc:Scope) (x:Str):Prop:=sc.names.lookup x=some .local\/sc.names.lookup x=some .cell
noncomputable def Look (env:Env) (h:Heap) (m:Str->Option Value) (x:Str) (u:Value):Prop :=
 (env.kindOf x=some .local/\m x=some u)\/((env.kindOf x=some .cell\/env.kindOf x=some .free)/\∃c,env.cells.lookup x=some c/\h.IsCell c (some u))
structure Cx.Ok (X:Cx):Prop where
 mod:Mod X.K X.mg X.base
 kind:X.env.scope.kind=.function
 glob:X.env.globals=mainGlobals
 blt:X.env.builtins=builtinsNs
 above:X.s₀.heap.objs.size<=X.env.locals
 inj:∀x y c,X.env.cells.lookup x=some c->X.env.cells.lookup y=some c->x=y
 has:∀x,(X.env.kindOf x=some .cell\/X.env.kindOf x=some .free)->∃c,X.env.cells.lookup x=some c
 cab:∀x c,X.fn x=true->X.env.cells.lookup x=some c->X.s₀.heap.objs.size<=c
 hd:X.calm=true->X.A.handled=none
 frames:X.A.frames=some X.stack
 stk:X.stack=X.outer\/(X.stack=X.env::X.outer/\X.env.frame=some X.env.locals)
 exf:∀b∈X.ex,b≠X.env.locals/\∀x c,X.env.cells.lookup x=some c->c≠b
 bs:∀b o,X.base.get? b=some o->X.s₀.heap.get? b=some o/\X.H₀ b=none
 bsz:X.base.objs.size<=X.s₀.heap.objs.size
 noex:∀b o,X.base.get? b=some o->b∉X.ex
 exfs:∀b∈X.ex,b∉X.fs
 funs:X.s₀.heap.FunFrames X.base X.outer
 frf:∀b∈X.fs,X.H₀ b=none
structure Inv (X:Cx) (pins:List (Addr×Obj)) (σ:List (Option V)) (H:Hp) (s:Shared):Prop where
 ok:X.Ok
 os:s.os=X.s₀.os
 bare:AllBare s.gens
 base:Un X.fs X.ex X.H₀ H X.s₀.heap s.heap
 loc:∃m,s.heap.Ns X.env.locals m/\∀(i:Nat) (x:Str) (v:V),X.N[i]?=some x->σ[i]?=some (some v)->Vis X.env.scope x->∃u,RelV v u/\Look X.env s.heap m x u
 cell:∀x c,X.env.cells.lookup x=some c->∃v,s.heap.IsCell c v
 free:H X.env.locals=none
 freeC:∀x c,X.env.cells.lookup x=some c->H c=none
 pin:∀p∈X.pn++pins,s.heap.get? p.1=some p.2/\H p.1=none/\p.1≠X.env.locals/\p.1∉X.fs/\∀v,p.2.data≠.cell v
 hok:HOk X.prog X.w H s.heap
 len:σ.length=X.N.length
section
variable {X:Cx}{pins:List (Addr×Obj)}{σ:List (Option V)}{H H':Hp}{s:Shared}{h':Heap}
theorem Cx.Ok.nofr (ok:X.Ok) {b:Addr}{o:Obj} (e:X.base.get? b=some o):b∉X.fs:=λhb=>by
 have:=(ok.funs.mem hb).1
 rw[e]at this;cases this
theorem Inv.bs (I:Inv X pins σ H s):∀b o,X.base.get? b=some o->s.heap.get? b=some o/\H b=none:=λb o e =>
 ⟨I.base.keep b o (I.ok.bs b o e).1 (I.ok.bs b o e).2 (I.ok.nofr e) (I.ok.noex b o e),I.base.free b o (I.ok.bs b o e).1 (I.ok.bs b o e).2 (I.ok.noex b o e)⟩
theorem Inv.bk (I:Inv X pins σ H s):∀b o,X.base.get? b=some o->s.heap.get? b=some o:=λb o e=>(I.bs b o e).1
theorem Inv.mod (I:Inv X pins σ H s):Mod X.K X.mg X.base:=I.ok.mod
theorem Inv.kIn (I:Inv X pins σ H s):X.K.In s.heap:=I.ok.mod.kin.keeps I.bk
theorem Inv.lt (I:Inv X pins σ H s):X.env.locals<s.heap.objs.size:=let ⟨_,hn,_⟩:=I.loc;hn.lt
theorem Inv.sz (I:Inv X pins σ H s):X.s₀.heap.objs.size<=s.heap.objs.size:=Yh I.ok.above (YQ I.lt)
theorem Inv.nofs (I:Inv X pins σ H s) {a:Addr} (h:s.heap.objs.size<=a):a∉X.fs:=λhb=>by
 obtain⟨_,o,ho,_⟩:=I.ok.funs.mem hb
 exact absurd (Yp (Yi ho) (Yh I.sz h)) (YE _)
theorem Inv.cne (I:Inv X pins σ H s):∀x c,X.env.cells.lookup x=some c->c≠X.env.locals:=λx c e z=>by
 obtain⟨v,o,ho,hd⟩:=I.cell x c e
 obtain⟨m,⟨o',es,ep,ho',hd',_⟩,_⟩:=I.loc
 rw[z,ho']at ho;cases ho;rw[hd']at hd;cases hd
theorem Inv.funs (I:Inv X pins σ H s):s.heap.FunFrames X.base X.outer:=by
 have all:∀(l:List Env),(∀b∈frs l,b∈X.fs)->X.s₀.heap.FunFrames X.base l->s.heap.FunFrames X.base l:=by
  intro l
  induction l with
  |nil=>intro _ _;trivial
  |cons env r ih =>
   intro hs hl
   obtain⟨hk,⟨L,o,hf,hn,ho,hd⟩,hr⟩:=hl
   have hL:L∈X.fs:=hs L (by unfold frs;rw[List.filterMap_cons,hf];exact YY)
   obtain⟨sl,e⟩:=I.base.slot L o ho (I.ok.frf L hL) hL λz=>I.ok.exfs L z hL
   exact⟨hk,⟨L,_,hf,hn,e,hd⟩,ih (λb hb=>hs b (by unfold frs;rw[List.filterMap_cons,hf];exact YN _ hb)) hr⟩
 exact all X.outer (λ_ hb=>hb) I.ok.funs
theorem Inv.stack (I:Inv X pins σ H s):s.heap.FunFrames X.base X.stack:=by
 rcases I.ok.stk with e|⟨e,hf⟩
 ·rw[e];exact I.funs
 ·rw[e]
  obtain⟨m,hn,_⟩:=I.loc
  refine .cons (by rw[I.ok.kind];decide) hf hn ?_ I.funs
  exact Heap.get?_none_of_le (Yh I.ok.bsz I.ok.above)
theorem Inv.Zem (I:Inv X pins σ H s):∀b∈frs X.stack,b∈X.env.locals::X.fs:=λb hb=>by
 rcases I.ok.stk with e|⟨e,hf⟩
 ·rw[e]at hb;exact YN _ hb
 ·rw[e]at hb
  unfold frs at hb
  rw[List.filterMap_cons,hf]at hb
  exact hb
theorem Inv.ZgO (I:Inv X pins σ H s):∀b∈frs X.stack,H b=none:=λb hb=>by
 rcases Yl.mp (I.Zem b hb)with e|hb
 ·rw[e];exact I.free
 ·obtain⟨_,o,ho,_⟩:=I.ok.funs.mem hb
  exact I.base.free b o ho (I.ok.frf b hb) λz=>I.ok.exfs b z hb
theorem Inv.step {g':Array GenState}{t':Nat}{d':Drawn}{ch:List Addr} (I:Inv X pins σ H s)
  (hch:∀b∈ch,(b∈X.ex\/X.s₀.heap.objs.size<=b)/\b≠X.env.locals/\(∀x c,X.env.cells.lookup x=some c->c≠b)/\∀p∈X.pn++pins,p.1≠b)
  (keep:∀b o,b≠X.env.locals->b∉X.fs->b∉ch->s.heap.get? b=some o->H b=none->h'.get? b=some o)
  (slot:∀b o,b≠X.env.locals->b∈X.fs->b∉ch->s.heap.get? b=some o->H b=none->∃sl,h'.get? b=some {o with slots:=sl}) (free:∀b o,b∉ch->s.heap.get? b=some o->H b=none->H' b=none)
  (there:∀b o,b∉ch->s.heap.get? b=some o->∃o',h'.get? b=some o')
  (tups:∀b xs,H b=some (.tup xs)->H' b=some (.tup xs)) (frzs:∀b o u,H b=some (.frz o u)->H' b=some (.frz o u)) (tbls:∀b ps,H b=some (.tbl ps)->∃more,H' b=some (.tbl (ps++more)))
  (ns:∀m,s.heap.Ns X.env.locals m->h'.Ns X.env.locals m) (hok:HOk X.prog X.w H' h') (hg:AllBare g') :
  Inv X pins σ H' {s with heap:=h',gens:=g',drawn:=d',toks:=t'}:=by
 have neL:∀b o,X.s₀.heap.get? b=some o->b≠X.env.locals:=λb o e=>Yo (Yp (Yi e) I.ok.above)
 have neC:∀b o,X.s₀.heap.get? b=some o->b∉X.ex->b∉ch:=λb o e hx hb=>by
  rcases(hch b hb).1 with z|z
  ·exact hx z
  ·exact absurd (Yp (Yi e) z) (YE _)
 have cellK:∀x c,X.env.cells.lookup x=some c->∀v,s.heap.IsCell c v->h'.IsCell c v:=λx c e v ⟨o,ho,hd⟩=>by
  have nch:c∉ch:=λz=>(hch c z).2.2.1 x c e rfl
  by_cases hc:c∈X.fs
  ·obtain⟨sl,q⟩:=slot c o (I.cne x c e) hc nch ho (I.freeC x c e)
   exact⟨_,q,hd⟩
  ·exact⟨o,keep c o (I.cne x c e) hc nch ho (I.freeC x c e),hd⟩
 refine⟨I.ok,I.os,hg,⟨λb o e n hb hx=>?_,λb o e n hb hx=>?_,λb o e n hx=>?_,λb o e hx=>?_,λb xs e=>tups b xs (I.base.tups b xs e),λb o xs e=>frzs b o xs (I.base.frzs b o xs e),λb ps e=>?_⟩,?_,λx c e=>?_,?_,λx c e=>?_,λp hp=>?_,hok,I.len⟩
 ·exact keep b o (neL b o e) hb (neC b o e hx) (I.base.keep b o e n hb hx) (I.base.free b o e n hx)
 ·obtain⟨sl,e1⟩:=I.base.slot b o e n hb hx
  obtain⟨sl',e2⟩:=slot b _ (neL b o e) hb (neC b o e hx) e1 (I.base.free b o e n hx)
  exact⟨sl',e2⟩
 ·obtain⟨o',e1⟩:=I.base.there b o e hx
  exact free b o' (neC b o e hx) e1 (I.base.free b o e n hx)
 ·obtain⟨o',e1⟩:=I.base.there b o e hx
  exact there b o' (neC b o e hx) e1
 ·obtain⟨m1,e1⟩:=I.base.tbls b ps e
  obtain⟨m2,e2⟩:=tbls b _ e1
  exact⟨m1++m2,by rw[e2,Array.append_assoc]⟩
 ·obtain⟨m,hn,hl⟩:=I.loc
  refine⟨m,ns m hn,λi x v e1 e2 e3=>?_⟩
  obtain⟨u,r,l⟩:=hl i x v e1 e2 e3
  refine⟨u,r,?_⟩
  rcases l with l|⟨k,c,e,z⟩
  ·exact .inl l
  ·exact .inr ⟨k,c,e,cellK x c e _ z⟩
 ·obtain⟨v,z⟩:=I.cell x c e
  exact⟨v,cellK x c e v z⟩
 ·obtain⟨m,⟨o,_,_,ho,_⟩,_⟩:=I.loc
  exact free _ o (λz=>(hch _ z).2.1 rfl) ho I.free
 ·obtain⟨v,o,ho,hd⟩:=I.cell x c e
  exact free c o (λz=>(hch c z).2.2.1 x c e rfl) ho (I.freeC x c e)
 ·obtain⟨e,n,ne,nf,d⟩:=I.pin p hp
  have nch:p.1∉ch:=λz=>(hch p.1 z).2.2.2 p hp rfl
  exact⟨keep p.1 p.2 ne nf nch e n,free p.1 p.2 nch e n,ne,nf,d⟩
theorem Inv.un {t':Nat} (I:Inv X pins σ H s) (u:Un X.fs [] H H' s.heap h') (hok:HOk X.prog X.w H' h'):Inv X pins σ H' {s with heap:=h',toks:=t'}:=by
 obtain⟨m,⟨o,es,ep,ho,r⟩,_⟩:=id I.loc
 obtain⟨sl,hL⟩:=u.any ho I.free (by simp)
 exact I.step (g':=s.gens) (d':=s.drawn) (ch:=[]) (λ_ z=>nomatch z) (λb o _ hb _ e n=>u.keep b o e n hb (by simp)) (λb o _ hb _ e n=>u.slot b o e n hb (by simp)) (λb o _ e n=>u.free b o e n (by simp)) (λb o _ e=>u.there b o e (by simp)) u.tups u.frzs u.tbls (λm' hm=>by
  obtain⟨o',es',ep',ho',r'⟩:=hm
  rw[ho]at ho';cases ho'
  exact⟨_,es',ep',hL,r'⟩) hok I.bare
theorem Inv.call {g':Array GenState}{t':Nat}{d':Drawn}{ch:List Addr} (I:Inv X pins σ H s) (u:Un (frs X.stack) ch H H' s.heap h') (hok:HOk X.prog X.w H' h') (hg:AllBare g')
  (hch:∀b∈ch,(b∈X.ex\/X.s₀.heap.objs.size<=b)/\b≠X.env.locals/\(∀x c,X.env.cells.lookup x=some c->c≠b)/\∀p∈X.pn++pins,p.1≠b) :
  Inv X pins σ H' {s with heap:=h',gens:=g',drawn:=d',toks:=t'}:=by
 obtain⟨m,⟨o,es,ep,ho,r⟩,_⟩:=id I.loc
 obtain⟨sl,hL⟩:=u.any ho I.free λz=>(hch _ z).2.1 rfl
 exact I.step (ch:=ch) hch (λb o hL hb hc e n=>u.keep b o e n (λz=>(Yl.mp (I.Zem b z)).elim hL hb) hc) (λb o _ _ hc e n=>u.any e n hc) (λb o hc e n=>u.free b o e n hc) (λb o hc e=>u.there b o e hc) u.tups u.frzs u.tbls (λm' hm=>by
  obtain⟨o',es',ep',ho',r'⟩:=hm
  rw[ho]at ho';cases ho'
  exact⟨_,es',ep',hL,r'⟩) hok hg
theorem Inv.turned {t':Nat}{it:Addr} (I:Inv X pins σ H s) (k:∀b o,b≠it->s.heap.get? b=some o->h'.get? b=some o) (hn:H it=none) (hL:it≠X.env.locals)
  (h1:it∈X.ex\/X.s₀.heap.objs.size<=it) (h2:∀x c,X.env.cells.lookup x=some c->c≠it) (h3:∀p∈X.pn++pins,p.1≠it):Inv X pins σ H {s with heap:=h',toks:=t'}:=by
 have nit:∀b u,H b=some u->b≠it:=λb u e z=>by rw[z,hn]at e;cases e
 refine I.step (g':=s.gens) (d':=s.drawn) (ch:=[it]) (λb hb=>?_) (λb o _ _ hc e _=>k b o (λz=>hc (by simp[z])) e) (λb o _ _ hc e _=>⟨o.slots,k b o (λz=>hc (by simp[z])) e⟩) (λ_ _ _ _ n=>n)
  (λb o hc e=>⟨o,k b o (λz=>hc (by simp[z])) e⟩) (λ_ _ e=>e) (λ_ _ _ e=>e) (λb ps e=>⟨#[],by rw[e];simp⟩) (λm hm=>?_) (λb u e=>?_) I.bare
 ·have e:b=it:=by simpa using hb
  subst e
  exact⟨h1,hL,h2,h3⟩
 ·obtain⟨o,es,ep,ho,r⟩:=hm
  exact⟨o,es,ep,k _ o (Ne.symm hL) ho,r⟩
 ·refine(I.hok b u e).ZgM (λc v hc q=>k c v ?_ q) (λ_ q=>q) (λ_ _ q=>q) λ_ _ _ q=>q
  rcases hc with z|z
  ·rw[z];exact nit b u e
  ·exact nit c _ z
theorem Inv.tok (I:Inv X pins σ H s) (t:Nat):Inv X pins σ H {s with toks:=t}:=I.un (h':=s.heap) (t':=t) Un.refl I.hok
theorem Inv.kept {t':Nat} (I:Inv X pins σ H s) (k:∀b u,s.heap.get? b=some u->h'.get? b=some u):Inv X pins σ H {s with heap:=h',toks:=t'}:=I.un (Un.kept k) (I.hok.kept k)
theorem Inv.laid {a:Addr}{o:HO}{t':Nat} (I:Inv X pins σ H s) (k:∀b u,s.heap.get? b=some u->h'.get? b=some u) (hp:s.heap.objs.size<=a) (new:ZJ X.prog X.w (upd H a o) h' a o) :
  Inv X pins σ (upd H a o) {s with heap:=h',toks:=t'}:=I.un (Un.laid k hp (I.hok.fresh hp)) (I.hok.laid k hp new)
theorem Inv.write {x e:Addr}{o:HO}{t':Nat} (I:Inv X pins σ H s) (mu:Mut (H x)) (he:e=x\/H e=some (.own x)) (k:∀b u,b≠e->s.heap.get? b=some u->h'.get? b=some u) (heo:∃u,h'.get? e=some u)
  (new:ZJ X.prog X.w (upd H x o) h' x o):Inv X pins σ (upd H x o) {s with heap:=h',toks:=t'}:=I.un (Un.write mu he k heo) (I.hok.write mu he k heo new)
theorem Inv.weak {σ':List (Option V)} (I:Inv X pins σ H s) (hl:σ'.length=σ.length) (w:∀(i:Nat) v,σ'[i]?=some (some v)->σ[i]?=some (some v)):Inv X pins σ' H s :=
 ⟨I.ok,I.os,I.bare,I.base,let ⟨m,hn,hl'⟩:=I.loc;⟨m,hn,λi x v e1 e2 e3=>hl' i x v e1 (w i v e2) e3⟩,I.cell,I.free,I.freeC,I.pin,I.hok,hl.trans I.len⟩
theorem Inv.ZdX {pins':List (Addr×Obj)} (I:Inv X pins σ H s) (h:∀p∈pins',s.heap.get? p.1=some p.2/\H p.1=none/\p.1≠X.env.locals/\p.1∉X.fs/\∀v,p.2.data≠.cell v):Inv X pins' σ H s :=
 ⟨I.ok,I.os,I.bare,I.base,I.loc,I.cell,I.free,I.freeC,λp hp=>(Yq.mp hp).elim (λz=>I.pin p (YJ _ z)) (h p),I.hok,I.len⟩
theorem Zhq {N:List Str} (hN:N.Nodup) {i j:Nat}{x:Str} (a:N[i]?=some x) (b:N[j]?=some x):i=j:=by
 obtain⟨h1,e1⟩:=Yk.mp a
 obtain⟨h2,e2⟩:=Yk.mp b
 exact(List.getElem_inj hN).mp (e1.trans e2.symm)
theorem Zjp {M:Model}{A:Around}{E:Value->Shared->Prop}{i:Nat}{x:Str}{v:V}{u:Value}{Q:Unit->Shared->Prop} (I:Inv X pins σ H s) (hN:X.N.Nodup) (hi:X.N[i]?=some x) (hx:Loc X.env.scope x) (r:RelV v u)
  (h:∀s',Inv X pins (σ.set i (some v)) H s'->(∃a,Heap.SameBut a s.heap s'.heap/\(a=X.env.locals\/X.env.cells.lookup x=some a))->Q () s') (hf:X.fn x=true\/X.env.scope.names.lookup x=some .local:=by first|exact .inl rfl|exact .inr rfl|assumption):wpAny M A (storeName X.env x u) Q E s:=by
 obtain⟨m,hn,hl⟩:=id I.loc
 have hcls:(X.env.scope.kind==.class||(X.env.scope.kind==.module&&X.env.locals != X.env.globals))=false:=by rw[I.ok.kind];rfl
 have hiσ:i < σ.length:=by rw[I.len];exact(Yk.mp hi).1
 have cne:=I.cne
 have tracked:∀{a:Addr}{h':Heap},(∃o,s.heap.get? a=some o/\H a=none)->Heap.SameBut a s.heap h'->HOk X.prog X.w H h':=λ{a h'} ha hs b ob e=>by
  obtain⟨_,_,hfree⟩:=ha
  refine(I.hok b ob e).ZgM (λc w' hc q=>(hs.2 c ?_).trans q) (λ_ q=>q) (λ_ _ q=>q) λ_ _ _ q=>q
  rintro rfl
  rcases hc with rfl|hc
  ·rw[hfree]at e;cases e
  ·rw[hfree]at hc;cases hc
 rcases hx with hk|hk
 ·refine wpAny_storeName_local hk hn (λh' hn' hs=>?_) hcls
  obtain⟨oL,_,_,hoL,_⟩:=id hn
  refine h _ ⟨I.ok,I.os,I.bare,⟨λb o e n hb hx=>?_,λb o e n hb hx=>?_,I.base.free,λb o e hx=>?_,I.base.tups,I.base.frzs,I.base.tbls⟩,⟨_,hn',λj y v' e1 e2 e3=>?_⟩,λy c e=>?_,I.free,I.freeC,λp hp=>?_,tracked ⟨oL,hoL,I.free⟩ hs,by simpa using I.len⟩ ⟨_,hs,.inl rfl⟩
  ·exact(hs.2 b (Yo (Yp (Yi e) I.ok.above))).trans (I.base.keep b o e n hb hx)
  ·obtain⟨sl,e1⟩:=I.base.slot b o e n hb hx
   exact⟨sl,(hs.2 b (Yo (Yp (Yi e) I.ok.above))).trans e1⟩
  ·obtain⟨o',e1⟩:=I.base.there b o e hx
   exact⟨o',(hs.2 b (Yo (Yp (Yi e) I.ok.above))).trans e1⟩
  ·by_cases hj:j=i
   ·subst hj
    rw[hi]at e1;cases e1
    rw[List.getElem?_set_self hiσ]at e2
    cases e2
    exact⟨u,r,.inl ⟨hk,by simp⟩⟩
   ·rw[List.getElem?_set_ne (Ne.symm hj)]at e2
    obtain⟨u',r',q⟩:=hl j y v' e1 e2 e3
    refine⟨u',r',?_⟩
    rcases q with⟨k,e⟩|⟨k,c,e,z⟩
    ·refine .inl ⟨k,?_⟩
     have:y≠x:=λe=>hj (Zhq hN e1 (e▸hi))
     simp[this,e]
    ·exact .inr ⟨k,c,e,z.sameBut hs (cne y c e)⟩
  ·obtain⟨w',z⟩:=I.cell y c e
   exact⟨w',z.sameBut hs (cne y c e)⟩
  ·obtain⟨e,n,ne,nf,d⟩:=I.pin p hp
   exact⟨(hs.2 p.1 ne).trans e,n,ne,nf,d⟩
 ·have hfn:X.fn x=true:=by
   rcases hf with z|z
   ·exact z
   ·rw[z]at hk;cases hk
  obtain⟨c,hc⟩:=I.ok.has x (.inl hk)
  obtain⟨w',z⟩:=I.cell x c hc
  refine wpAny_storeName_cell I.ok.kind hk hc z (λh' hc' hs=>?_)
  obtain⟨oc,hoc,hocd⟩:=id z
  refine h {s with heap:=h'} ⟨I.ok,I.os,I.bare,⟨λb o e n hb hx=>?_,λb o e n hb hx=>?_,I.base.free,λb o e hx=>?_,I.base.tups,I.base.frzs,I.base.tbls⟩,⟨m,hn.sameBut hs (Ne.symm (cne x c hc)),λj y v' e1 e2 e3=>?_⟩,λy c' e=>?_,I.free,I.freeC,λp hp=>?_,tracked ⟨oc,hoc,I.freeC x c hc⟩ hs,by simpa using I.len⟩ ⟨c,hs,.inr hc⟩
  ·exact(hs.2 b (Yo (Yp (Yi e) (I.ok.cab x c hfn hc)))).trans (I.base.keep b o e n hb hx)
  ·obtain⟨sl,e1⟩:=I.base.slot b o e n hb hx
   exact⟨sl,(hs.2 b (Yo (Yp (Yi e) (I.ok.cab x c hfn hc)))).trans e1⟩
  ·obtain⟨o',e1⟩:=I.base.there b o e hx
   exact⟨o',(hs.2 b (Yo (Yp (Yi e) (I.ok.cab x c hfn hc)))).trans e1⟩
  ·by_cases hj:j=i
   ·subst hj
    rw[hi]at e1;cases e1
    rw[List.getElem?_set_self hiσ]at e2
    cases e2
    exact⟨u,r,.inr ⟨.inl hk,c,hc,hc'⟩⟩
   ·rw[List.getElem?_set_ne (Ne.symm hj)]at e2
    obtain⟨u',r',q⟩:=hl j y v' e1 e2 e3
    refine⟨u',r',?_⟩
    rcases q with q|⟨k,c',e,z'⟩
    ·exact .inl q
    ·refine .inr ⟨k,c',e,z'.sameBut hs ?_⟩
     rintro rfl
     exact hj (Zhq hN e1 (I.ok.inj _ _ _ e hc▸hi))
  ·by_cases hcc:c'=c
   ·subst hcc;exact⟨_,hc'⟩
   ·obtain⟨w2,z2⟩:=I.cell y c' e
    exact⟨w2,z2.sameBut hs hcc⟩
  ·obtain⟨e,n,ne,nf,d⟩:=I.pin p hp
   refine⟨(hs.2 p.1 ?_).trans e,n,ne,nf,d⟩
   intro q
   rw[q,hoc]at e
   have q':oc=p.2:=YA e
   exact d w' (by rw[<-q'];exact hocd)
theorem ZcS {M:Model}{A:Around}{E:Value->Shared->Prop}{i:Nat}{x:Str}{v:V}{u:Value}{Q:Unit->Shared->Prop} (I:Inv X pins σ H s) (hN:X.N.Nodup) (hi:X.N[i]?=some x) (hx:Loc X.env.scope x) (r:RelV v u)
  (h:∀s',Inv X pins (σ.set i (some v)) H s'->Q () s') (hf:X.fn x=true\/X.env.scope.names.lookup x=some .local:=by first|exact .inl rfl|exact .inr rfl|assumption):wpAny M A (storeName X.env x u) Q E s :=
 Zjp I hN hi hx r (λs' I' _=>h s' I') hf
theorem Inv.call' {s':Shared}{ch:List Addr} (I:Inv X pins σ H s) (ho:s'.os=s.os) (u:Un (frs X.stack) ch H H' s.heap s'.heap) (hok:HOk X.prog X.w H' s'.heap) (hg:AllBare s'.gens)
  (hch:∀b∈ch,(b∈X.ex\/X.s₀.heap.objs.size<=b)/\b≠X.env.locals/\(∀x c,X.env.cells.lookup x=some c->c≠b)/\∀p∈X.pn++pins,p.1≠b):Inv X pins σ H' s':=by
 obtain⟨h',g',d',t',o'⟩:=s'
 have e:o'=s.os:=ho
 subst e
 exact I.call (g':=g') (t':=t') (d':=d') u hok hg hch
end
noncomputable abbrev XK:=Value->Option Addr->Hp->Prop
noncomputable abbrev St:=List (Option V)
noncomputable abbrev VK:=V->Hp->Prop
noncomputable abbrev TE:=St->Hp->VK->Prop
noncomputable abbrev TT:=St->Hp->(Bool->Hp->Prop)->Prop
noncomputable abbrev TA:=St->Hp->(List V->Hp->Prop)->Prop
structure Ends where
 nx:St->Hp->Prop
 rt:VK
 bk:St->Hp->Prop:=λ_ _=>False
 ct:St->Hp->Prop:=λ_ _=>False
noncomputable abbrev TS:=Ends->St->Hp->Prop
noncomputable def EP (X:Cx) (pins:List (Addr×Obj)) (σ:St) (Q:VK) (u:Value) (s':Shared):Prop:=∃v H',Inv X pins σ H' s'/\RelV v u/\Q v H'
noncomputable def TP (X:Cx) (pins:List (Addr×Obj)) (σ:St) (Q:Bool->Hp->Prop) (b:Bool) (s':Shared):Prop:=∃H',Inv X pins σ H' s'/\Q b H'
noncomputable def AP (X:Cx) (pins:List (Addr×Obj)) (σ:St) (Q:List V->Hp->Prop) (us:List Value) (s':Shared):Prop:=∃vs H',Inv X pins σ H' s'/\Vals vs us/\Q vs H'
noncomputable def SP (X:Cx) (pins:List (Addr×Obj)) (D:Ends) (f:Flow) (s':Shared):Prop :=
 match f with
 |.next=>∃σ' H',Inv X pins σ' H' s'/\D.nx σ' H'
 |.brk=>∃σ' H',Inv X pins σ' H' s'/\D.bk σ' H'
 |.cont=>∃σ' H',Inv X pins σ' H' s'/\D.ct σ' H'
 |.ret u=>∃v σ' H',Inv X pins σ' H' s'/\RelV v u/\D.rt v H'
noncomputable def PE (X:Cx) (e:Expr) (t:TE):Prop :=
 ∀(pins:List (Addr×Obj)) (s:Shared) (σ:St) (H:Hp) (Q:VK),Inv X pins σ H s->t σ H Q->wpAny (model X.prog X.w) X.A (eval e X.env) (EP X pins σ Q) X.xe s
noncomputable def PT (X:Cx) (e:Expr) (t:TT):Prop :=
 ∀(pins:List (Addr×Obj)) (s:Shared) (σ:St) (H:Hp) (Q:Bool->Hp->Prop),Inv X pins σ H s->t σ H Q->wpAny (model X.prog X.w) X.A (isTrue e X.env (eval e X.env)) (TP X pins σ Q) X.xe s
noncomputable def PW (X:Cx) (e:Expr) (t:TT):Prop :=
 ∀(whole:Sem Value) (pins:List (Addr×Obj)) (s:Shared) (σ:St) (H:Hp) (Q:Bool->Hp->Prop),Inv X pins σ H s->t σ H Q->wpAny (model X.prog X.w) X.A (isTrue e X.env whole) (TP X pins σ Q) X.xe s
theorem PW.pt {X:Cx}{e:Expr}{t:TT} (h:PW X e t):PT X e t:=h _
noncomputable def PA (X:Cx) (es:List Expr) (t:TA):Prop :=
 ∀(pos:Pos) (pins:List (Addr×Obj)) (s:Shared) (σ:St) (H:Hp) (Q:List V->Hp->Prop),Inv X pins σ H s->t σ H Q->wpAny (model X.prog X.w) X.A (spliced (backTo pos (starEach es X.env))) (AP X pins σ Q) X.xe s
noncomputable def PS (X:Cx) (st:Stmt) (t:TS):Prop :=
 ∀(pins:List (Addr×Obj)) (s:Shared) (σ:St) (H:Hp) (D:Ends),Inv X pins σ H s->t D σ H->wpAny (model X.prog X.w) X.A (exec st X.env) (SP X pins D) X.xe s
noncomputable def PSs (X:Cx) (st:List Stmt) (t:TS):Prop :=
 ∀(pins:List (Addr×Obj)) (s:Shared) (σ:St) (H:Hp) (D:Ends),Inv X pins σ H s->t D σ H->wpAny (model X.prog X.w) X.A (execs st X.env) (SP X pins D) X.xe s
theorem thn {α:Type}{t:Sem α}{Q Q':α->Shared->Prop}{M:Model}{A:Around}{E:Value->Shared->Prop}{s:Shared} (h:wpAny M A t Q E s) (hQ:∀a s,Q a s->Q' a s):wpAny M A t Q' E s:=YH h hQ λ_ _ x=>x
section
variable {X:Cx}
noncomputable def tVar (i:Nat):TE:=fun σ H Q=>∃v,σ[i]?=some (some v)/\Q v H
noncomputable def tC (v:V):TE:=λ_ H Q=>Q v H
theorem pe_var {i:Nat}{x:Str}{pos:Pos} (hN:X.N[i]?=some x) (hv:Vis X.env.scope x) (hd:(x==("__debug__":Str))=false:=by decide) (hcd:(x==("__classdict__":Str))=false:=by decide):PE X (.Name x pos) (tVar i):=by
 intro pins s σ H Q I h
 obtain⟨v,e,h⟩:=h
 obtain⟨m,hn,hl⟩:=I.loc
 obtain⟨u,r,l⟩:=hl i x v hN e hv
 have fin:EP X pins σ Q u s:=⟨v,H,I,r,h⟩
 rcases l with⟨hk,hm⟩|⟨hk,c,hc,hcell⟩
 ·exact wpAny_Name (wpAny_loadName_local I.ok.kind hk hn hm fin) hd
 ·rcases hk with hk|hk
  ·exact wpAny_Name (wpAny_loadName_cell I.ok.kind hk hc hcell fin) hd
  ·exact wpAny_Name (wpAny_loadName_free I.ok.kind hk hc hcell fin hcd) hd
theorem Zd {i j pos}:PE X (.Constant (.int i) j pos) (tC (.int i)):=λ_ _ _ H _ I h=>wpAny_Constant_int ⟨.int i,H,I.tok _,⟨_,rfl⟩,h⟩
theorem Zgk {b j pos}:PE X (.Constant (.bool b) j pos) (tC (.bl b)):=λ_ _ _ H _ I h=>Constant_bool ⟨.bl b,H,I,rfl,h⟩
theorem Zid {j pos}:PE X (.Constant .none j pos) (tC .non):=λ_ _ _ H _ I h=>Constant_none ⟨.non,H,I,rfl,h⟩
noncomputable def Gl (X:Cx) (x:Str):Prop:=X.env.kindOf x=some .globalImplicit
theorem Zff {E:Value->Shared->Prop}{pins:List (Addr×Obj)}{s:Shared}{σ:St}{H:Hp}{x:Str}{u:Value}{pos:Pos}{Q:Value->Shared->Prop} (I:Inv X pins σ H s) (hg:Gl X x) (hm:X.mg x=some u) (h:Q u s)
  (hd:(x==("__debug__":Str))=false:=by decide):wpAny (model X.prog X.w) X.A (eval (.Name x pos) X.env) Q E s :=
 Calls.Name_function_global I.ok.kind hg (Calls.loadGlobal_global (by rw[I.ok.glob];exact I.mod.glob.keeps I.bk) hm h) hd
theorem Zen {E:Value->Shared->Prop}{pins:List (Addr×Obj)}{s:Shared}{σ:St}{H:Hp}{x:Str}{u:Value}{pos:Pos}{Q:Value->Shared->Prop} (I:Inv X pins σ H s) (hg:Gl X x) (hm:X.mg x=none) (hv:bootBuiltins x=some u) (h:Q u s)
  (hn:x≠"__name__":=by decide) (hd:(x==("__debug__":Str))=false:=by decide):wpAny (model X.prog X.w) X.A (eval (.Name x pos) X.env) Q E s:=by
 obtain⟨mb,h1,h2⟩:=I.mod.blt
 exact Calls.Name_function_global I.ok.kind hg (Calls.loadGlobal_builtin (by rw[I.ok.glob];exact I.mod.glob.keeps I.bk) hm (by rw[I.ok.blt];exact h1.keeps I.bk) ((h2 x hn).trans hv) h) hd
theorem Zfg {x:Str}{v:V}{u:Value}{pos:Pos} (hg:Gl X x) (hm:X.mg x=some u) (r:RelV v u) (hd:(x==("__debug__":Str))=false:=by decide):PE X (.Name x pos) (tC v) :=
 λ_ _ _ H _ I h=>Zff I hg hm ⟨v,H,I,r,h⟩ hd
theorem ZiN {x:Str}{v:V}{u:Value}{pos:Pos} (hg:Gl X x) (hm:X.mg x=none) (hv:bootBuiltins x=some u) (r:RelV v u) (hn:x≠"__name__":=by decide) (hd:(x==("__debug__":Str))=false:=by decide):PE X (.Name x pos) (tC v) :=
 λ_ _ _ H _ I h=>Zen I hg hm hv ⟨v,H,I,r,h⟩ hn hd
variable {a b:Expr}{ta tb:TE}{pos:Pos}
noncomputable def PC (X:Cx) (op:CmpOp) (a b:Expr) (t:TE):Prop :=
 ∀(pins:List (Addr×Obj)) (s:Shared) (σ:St) (H:Hp) (Q:VK),Inv X pins σ H s->t σ H Q ->
  wpAny (model X.prog X.w) X.A (eval a X.env) (λv s₁=>wpAny (model X.prog X.w) X.A (eval b X.env) (λu s₂=>wpAny (model X.prog X.w) X.A (compareOp op v u) (EP X pins σ Q) X.xe s₂) X.xe s₁) X.xe s
theorem Zkj (b:Expr) {op:CmpOp} (h:op≠.In) (h2:op≠.NotIn):behindInMarks op b=false:=by
 have e1:(op==CmpOp.In)=false:=by cases op<;>first|rfl|exact absurd rfl h
 have e2:(op==CmpOp.NotIn)=false:=by cases op<;>first|rfl|exact absurd rfl h2
 cases b<;>simp[behindInMarks,e1,e2]
noncomputable def tB (t:TE):TT:=fun σ H Q=>t σ H λx H1=>∃c,x=.bl c/\Q c H1
theorem pt_cmp {op:CmpOp}{t:TE} (h:PC X op a b t) (h1:behindInMarks op b=false:=by first|exact Zkj _ (by decide) (by decide)|rfl):PT X (.Compare a [op] [b] pos) (tB t):=by
 intro pins s σ H Q I hw
 refine wpAny_isTrue_Compare1 (thn (h pins s σ H _ I hw) λv s1 h1=>thn h1 λu s2 h2=>thn h2 λc s3 ⟨x,H1,I1,r1,q1⟩=>?_) h1
 obtain⟨d,rfl,q⟩:=q1
 cases r1
 exact wpAny_truthy_bool ⟨H1,I1,q⟩
theorem Zie {e:Expr}{t:TE} (h:PE X e t) (he:∀whole,isTrue e X.env whole=(do let v <-whole;standAt e.pos;holding [v] (truthy v)):=by intro _;rfl):PT X e (tB t):=by
 intro pins s σ H Q I hw
 refine isTrue_plain (thn (h pins s σ H _ I hw) λv s1 ⟨x,H1,I1,r1,q1⟩=>?_) (he _)
 obtain⟨d,rfl,q⟩:=q1
 cases r1
 exact wpAny_truthy_bool ⟨H1,I1,q⟩
variable {tA tB':TT}{rest:List Expr}
noncomputable def tAnd (t u:TT):TT:=fun σ H Q=>t σ H λc H1=>if c=true then u σ H1 Q else Q false H1
noncomputable def tOr (t u:TT):TT:=fun σ H Q=>t σ H λc H1=>if c=true then Q true H1 else u σ H1 Q
noncomputable def tNot (t:TT):TT:=fun σ H Q=>t σ H λc H1=>Q (!c) H1
theorem ZiO (ha:PT X a tA):PW X (.BoolOp .And [a] pos) tA:=by
 intro wh pins s σ H Q I h
 refine isTrue_and (thn (ha pins s σ H Q I h) λc s1 e=>?_)
 cases c with
 |true=>exact isTrue_and_nil e
 |false=>exact e
theorem ZgP (ha:PT X a tA):PW X (.BoolOp .Or [a] pos) tA:=by
 intro wh pins s σ H Q I h
 refine isTrue_or (thn (ha pins s σ H Q I h) λc s1 e=>?_)
 cases c with
 |false=>exact isTrue_or_nil e
 |true=>exact e
theorem Zkk (ha:PT X a tA) (hb:PW X (.BoolOp .And (b::rest) pos) tB'):PW X (.BoolOp .And (a::b::rest) pos) (tAnd tA tB'):=by
 intro wh pins s σ H Q I h
 refine isTrue_and (thn (ha pins s σ H _ I h) λc s1 ⟨H1,I1,q1⟩=>?_)
 cases c with
 |true=>exact hb wh pins s1 σ H1 Q I1 q1
 |false=>exact⟨H1,I1,q1⟩
theorem ZiP (ha:PT X a tA) (hb:PW X (.BoolOp .Or (b::rest) pos) tB'):PW X (.BoolOp .Or (a::b::rest) pos) (tOr tA tB'):=by
 intro wh pins s σ H Q I h
 refine isTrue_or (thn (ha pins s σ H _ I h) λc s1 ⟨H1,I1,q1⟩=>?_)
 cases c with
 |true=>exact⟨H1,I1,q1⟩
 |false=>exact hb wh pins s1 σ H1 Q I1 q1
theorem Zkl (ha:PT X a tA):PT X (.UnaryOp .Not a pos) (tNot tA):=by
 intro pins s σ H Q I h
 exact isTrue_not (ha pins s σ H (λc H1=>Q (!c) H1) I h)
noncomputable def tAndV (ta tb:TE):TE:=fun σ H Q=>ta σ H λx H1=>∃c,x=.bl c/\if c=true then tb σ H1 Q else Q (.bl false) H1
noncomputable def tNotV (ta:TE):TE:=fun σ H Q=>ta σ H λx H1=>∃c,x=.bl c/\Q (.bl (!c)) H1
theorem Zkm {op}{t:TE} (h:PE X a t):PE X (.BoolOp op [a] pos) t:=λpins s σ H Q I hw=>BoolOp_one (h pins s σ H Q I hw)
theorem pe_and (ha:PE X a ta) (hb:PE X (.BoolOp .And (b::rest) pos) tb):PE X (.BoolOp .And (a::b::rest) pos) (tAndV ta tb):=by
 intro pins s σ H Q I h
 refine BoolOp_and (thn (ha pins s σ H _ I h) λv s1 ⟨x,H1,I1,r1,q1⟩=>?_)
 obtain⟨c,rfl,q1⟩:=q1
 cases r1
 refine wpAny_truthy_bool ?_
 cases c with
 |true=>exact hb pins s1 σ H1 Q I1 q1
 |false=>exact⟨.bl false,H1,I1,rfl,q1⟩
theorem pe_not (ha:PE X a ta):PE X (.UnaryOp .Not a pos) (tNotV ta):=by
 intro pins s σ H Q I h
 refine UnaryOp_ (thn (ha pins s σ H _ I h) λv s1 ⟨x,H1,I1,r1,q1⟩=>?_)
 obtain⟨c,rfl,q1⟩:=q1
 cases r1
 exact not_of (wpAny_truthy_bool ⟨.bl (!c),H1,I1,rfl,q1⟩)
noncomputable def tIf (t:TT) (ta tb:TE):TE:=fun σ H Q=>t σ H λc H1=>if c=true then ta σ H1 Q else tb σ H1 Q
theorem Zhr {c:Expr} (hc:PT X c tA) (ha:PE X a ta) (hb:PE X b tb):PE X (.IfExp c a b pos) (tIf tA ta tb):=by
 intro pins s σ H Q I h
 refine wpAny_IfExp (thn (hc pins s σ H _ I h) λd s1 ⟨H1,I1,q1⟩=>?_)
 cases d with
 |true=>exact ha pins s1 σ H1 Q I1 q1
 |false=>exact hb pins s1 σ H1 Q I1 q1
end
noncomputable def SqL (K:PySem.W.Frag) (H:Hp) (a:Addr) (xs:List V):Prop :=
 Rd H a (.lst xs) \/
  ∃(o:Obj) (its:Array Value) (n:Nat),K.lookup a=some o/\o.cls=.type "list"/\o.dict=none/\o.data=.seq its n/\its.size<=sizeLine/\Vals xs its.toList
noncomputable def SqT (K:PySem.W.Frag) (H:Hp) (a:Addr) (xs:List V):Prop :=
 Rd H a (.tup xs) \/
  ∃(o:Obj) (its:Array Value) (n:Nat),K.lookup a=some o/\o.cls=.type "tuple"/\o.data=.seq its n/\its.size<=sizeLine/\Vals xs its.toList
noncomputable def absV:Value->Option V
 |.none=>some .non
 |.bool b=>some (.bl b)
 |.int i _=>some (.int i)
 |.str x _=>some (.str x)
 |.bytes b _=>some (.byt b)
 |.float b _=>some (.flt b)
 |.ref a=>some (.ref a)
 |.type n=>some (.ty n)
 |_=>none
theorem RelV.abs {x:V}{u:Value} (r:RelV x u):absV u=some x:=by
 cases x with
 |non=>cases r;rfl
 |bl _=>cases r;rfl
 |int _=>obtain⟨t,rfl⟩:=r;rfl
 |str _=>obtain⟨t,rfl⟩:=r;rfl
 |byt _=>obtain⟨t,rfl⟩:=r;rfl
 |flt _=>obtain⟨t,rfl⟩:=r;rfl
 |ref _=>cases r;rfl
 |ty _=>cases r;rfl
theorem RelV.inj {x y:V}{u:Value} (r:RelV x u) (q:RelV y u):x=y:=YA (r.abs.symm.trans q.abs)
theorem Vals.inj:∀{xs ys:List V}{us:List Value},Vals xs us->Vals ys us->xs=ys
 |_,_,_,.nil,.nil=>rfl
 |_,_,_,.cons r t,.cons r' t'=>by rw[r.inj r',Vals.inj t t']
section
variable {X:Cx}{pins:List (Addr×Obj)}{σ:St}{H:Hp}{s:Shared}{a:Addr}{xs ys:List V}
theorem SqL.of {K:PySem.W.Frag} (h:H a=some (.lst xs)):SqL K H a xs:=.inl (.inl h)
theorem SqT.of {K:PySem.W.Frag} (h:H a=some (.tup xs)):SqT K H a xs:=.inl (.inl h)
theorem Inv.list (I:Inv X pins σ H s) (h:SqL X.K H a xs):∃its:List Value,Vals xs its/\PlainL s.heap a its.toArray/\xs.length<=sizeLine:=by
 rcases h with h|⟨o,its,n,hk,hc,hd,hs,hz,r⟩
 ·obtain⟨z,its,n,r,e⟩:=h.ok I.hok
  exact⟨its,r,⟨_,n,e,rfl,rfl,rfl⟩,z⟩
 ·refine⟨its.toList,r,⟨o,n,I.kIn a o hk,hc,hd,by simpa using hs⟩,?_⟩
  have e:=r.length
  simp only[YR]at e
  omega
theorem Inv.tuple (I:Inv X pins σ H s) (h:SqT X.K H a xs):∃its:List Value,Vals xs its/\IsTup s.heap a its.toArray/\xs.length<=sizeLine:=by
 rcases h with h|⟨o,its,n,hk,hc,hs,hz,r⟩
 ·obtain⟨z,its,r,p⟩:=h.ok I.hok
  exact⟨its,r,p,z⟩
 ·refine⟨its.toList,r,⟨o,I.kIn a o hk,hc,n,by simpa using hs⟩,?_⟩
  have e:=r.length
  simp only[YR]at e
  omega
theorem Inv.Zby (I:Inv X pins σ H s) (h:SqL X.K H a xs) (h':SqL X.K H a ys):xs=ys:=by
 obtain⟨its,r,⟨o,n,e,_,_,d⟩,_⟩:=I.list h
 obtain⟨its',r',⟨o',n',e',_,_,d'⟩,_⟩:=I.list h'
 rw[e]at e';cases e'
 rw[d]at d'
 injection d' with d1 _
 have:its=its':=by simpa using congrArg Array.toList d1
 subst this
 exact r.inj r'
theorem Inv.Zdk (I:Inv X pins σ H s) (h:SqT X.K H a xs) (h':SqT X.K H a ys):xs=ys:=by
 obtain⟨its,r,⟨o,e,_,n,d⟩,_⟩:=I.tuple h
 obtain⟨its',r',⟨o',e',_,n',d'⟩,_⟩:=I.tuple h'
 rw[e]at e';cases e'
 rw[d]at d'
 injection d' with d1 _
 have:its=its':=by simpa using congrArg Array.toList d1
 subst this
 exact r.inj r'
end
noncomputable abbrev Cx.ZfZ (X:Cx) (E:Value->Shared->Prop):Cx:={X with xe:=E}
noncomputable abbrev Cx.nox (X:Cx):Cx:=X.ZfZ λ_ _=>False
theorem Cx.Ok.ZfZ {X:Cx} (ok:X.Ok) (E:Value->Shared->Prop):(X.ZfZ E).Ok :=
 ⟨ok.mod,ok.kind,ok.glob,ok.blt,ok.above,ok.inj,ok.has,ok.cab,ok.hd,ok.frames,ok.stk,ok.exf,ok.bs,ok.bsz,ok.noex,ok.exfs,ok.funs,ok.frf⟩
theorem Cx.Ok.ZcT {X:Cx}{E:Value->Shared->Prop} (ok:(X.ZfZ E).Ok):X.Ok :=
 ⟨ok.mod,ok.kind,ok.glob,ok.blt,ok.above,ok.inj,ok.has,ok.cab,ok.hd,ok.frames,ok.stk,ok.exf,ok.bs,ok.bsz,ok.noex,ok.exfs,ok.funs,ok.frf⟩
section
variable {X:Cx}{pins:List (Addr×Obj)}{σ:St}{H:Hp}{s:Shared}{E:Value->Shared->Prop}
theorem Inv.ZfZ (I:Inv X pins σ H s) (E:Value->Shared->Prop):Inv (X.ZfZ E) pins σ H s:=⟨I.ok.ZfZ E,I.os,I.bare,I.base,I.loc,I.cell,I.free,I.freeC,I.pin,I.hok,I.len⟩
theorem Inv.ZcT (I:Inv (X.ZfZ E) pins σ H s):Inv X pins σ H s:=⟨I.ok.ZcT,I.os,I.bare,I.base,I.loc,I.cell,I.free,I.freeC,I.pin,I.hok,I.len⟩
theorem SP.ZcT {D:Ends}{f:Flow}{s':Shared} (h:SP (X.ZfZ E) pins D f s'):SP X pins D f s':=by
 cases f with
 |next=>obtain⟨σ',H',I,q⟩:=h;exact⟨σ',H',I.ZcT,q⟩
 |brk=>obtain⟨σ',H',I,q⟩:=h;exact⟨σ',H',I.ZcT,q⟩
 |cont=>obtain⟨σ',H',I,q⟩:=h;exact⟨σ',H',I.ZcT,q⟩
 |ret u=>obtain⟨v,σ',H',I,r,q⟩:=h;exact⟨v,σ',H',I.ZcT,r,q⟩
end
section
variable {X:Cx}{st:Stmt}{rest:List Stmt}{t u:TS}{e:Expr}{te:TE}{pos:Pos}
noncomputable def tNext:TS:=λD σ H=>D.nx σ H
noncomputable def tSeq (t u:TS):TS:=λD σ H=>t {D with nx:=u D} σ H
theorem ZA:PSs X [] tNext:=λ_ _ σ H _ I h=>wpAny_execs_nil ⟨σ,H,I,h⟩
theorem Ze (h1:PS X st t) (h2:PSs X rest u):PSs X (st::rest) (tSeq t u):=by
 intro pins s σ H D I h
 refine wpAny_execs_cons (thn (h1 pins s σ H {D with nx:=u D} I h) λf s1 q=>?_)
 cases f with
 |next =>
  obtain⟨σ',H',I',q⟩:=q
  exact h2 pins s1 σ' H' D I' q
 |ret v=>exact q
 |brk=>exact q
 |cont=>exact q
theorem Zg (h1:PS X st t):PSs X [st] t:=by
 intro pins s σ H D I h
 refine wpAny_execs_cons (thn (h1 pins s σ H D I h) λf s1 q=>?_)
 cases f with
 |next=>exact wpAny_execs_nil q
 |ret v=>exact q
 |brk=>exact q
 |cont=>exact q
theorem Inv.quiet {pins:List (Addr×Obj)}{σ:St}{H:Hp}{s:Shared} (I:Inv X pins σ H s):interactive X.env=false:=by simp[interactive,I.ok.kind]
noncomputable def tDrop (te:TE):TS:=λD σ H=>te σ H λ_ H1=>D.nx σ H1
theorem ZaK (he:PE X e te) (hs:swapsWith e none pos.line X.env=pure false:=by rfl):PS X (.Expr e pos) (tDrop te):=by
 intro pins s σ H D I h
 exact wpAny_Expr_any (thn (he pins s σ H _ I h) λv s1 ⟨x,H1,I1,r1,q1⟩=>⟨σ,H1,I1,q1⟩) I.quiet hs
noncomputable def tRet (te:TE):TS:=λD σ H=>te σ H D.rt
theorem Zy (he:PE X e te):PS X (.Return (some e) pos) (tRet te):=by
 intro pins s σ H D I h
 exact wpAny_Return_some (thn (he pins s σ H _ I h) λv s1 ⟨x,H1,I1,r1,q1⟩=>⟨x,σ,H1,I1,r1,q1⟩)
noncomputable def tIfS (c:TT) (t u:TS):TS:=λD σ H=>c σ H λb H1=>if b=true then t D σ H1 else u D σ H1
theorem ZR {c:Expr}{a b:List Stmt}{tc:TT} (hc:PT X c tc) (ha:PSs X a t) (hb:PSs X b u):PS X (.If c a b pos) (tIfS tc t u):=by
 intro pins s σ H D I h
 refine wpAny_If (thn (hc pins s σ H _ I h) λd s1 ⟨H1,I1,q1⟩=>?_)
 cases d with
 |true=>exact ha pins s1 σ H1 D I1 q1
 |false=>exact hb pins s1 σ H1 D I1 q1
end
noncomputable abbrev TG:=V->St->Hp->(St->Hp->Prop)->Prop
noncomputable abbrev TGs:=List V->St->Hp->(St->Hp->Prop)->Prop
noncomputable def PG (X:Cx) (target:Expr) (t:TG):Prop :=
 ∀(pins:List (Addr×Obj)) (s:Shared) (σ:St) (H:Hp) (v:V) (u:Value) (Q:St->Hp->Prop),Inv X pins σ H s->RelV v u->t v σ H Q ->
  wpAny (model X.prog X.w) X.A (assign target X.env u) (λ_ s'=>∃σ' H',Inv X pins σ' H' s'/\Q σ' H') X.xe s
noncomputable def PGs (X:Cx) (ts:List Expr) (t:TGs):Prop :=
 ∀(pins:List (Addr×Obj)) (s:Shared) (σ:St) (H:Hp) (vs:List V) (us:List Value) (Q:St->Hp->Prop),Inv X pins σ H s->Vals vs us->t vs σ H Q ->
  wpAny (model X.prog X.w) X.A (assignInOrder ((assignEach ts X.env).map (·.2)) us) (λ_ s'=>∃σ' H',Inv X pins σ' H' s'/\Q σ' H') X.xe s
noncomputable abbrev TSet:=V->V->V->Hp->(Hp->Prop)->Prop
noncomputable def PSet (X:Cx) (t:TSet):Prop :=
 ∀(pins:List (Addr×Obj)) (s:Shared) (σ:St) (H:Hp) (o i v:V) (ov iv u:Value) (Q:Hp->Prop),Inv X pins σ H s->RelV o ov->RelV i iv->RelV v u->t o i v H Q ->
  wpAny (model X.prog X.w) X.A (setItem ov iv u) (λ_ s'=>∃H',Inv X pins σ H' s'/\Q H') X.xe s
noncomputable abbrev TIp:=V->V->Hp->VK->Prop
noncomputable def PIp (X:Cx) (op:Operator) (t:TIp):Prop :=
 ∀(pins:List (Addr×Obj)) (s:Shared) (σ:St) (H:Hp) (x y:V) (v u:Value) (Q:VK),Inv X pins σ H s->RelV x v->RelV y u->t x y H Q ->
  wpAny (model X.prog X.w) X.A (inplaceOp op v u) (EP X pins σ Q) X.xe s
section
variable {X:Cx}{pos:Pos}
noncomputable def gName (i:Nat):TG:=λv σ H Q=>Q (σ.set i (some v)) H
theorem Zo {i:Nat}{x:Str} (hN:X.N.Nodup) (hi:X.N[i]?=some x) (hx:Loc X.env.scope x) (hf:X.fn x=true\/X.env.scope.names.lookup x=some .local:=by first|exact .inl rfl|exact .inr rfl|assumption):PG X (.Name x pos) (gName i):=by
 intro pins s σ H v u Q I r h
 exact wpAny_assign_Name (ZcS I hN hi hx r (λs' I'=>⟨_,H,I',h⟩) hf)
noncomputable def gNil:TGs:=λvs σ H Q=>vs=[]/\Q σ H
noncomputable def gCons (t:TG) (u:TGs):TGs:=λvs σ H Q=>∃v r,vs=v::r/\t v σ H fun σ' H'=>u r σ' H' Q
theorem ZdY:PGs X [] gNil:=by
 intro pins s σ H vs us Q I r h
 obtain⟨e,h⟩:=h
 subst e
 cases r
 exact assignInOrder_nil ⟨σ,H,I,h⟩
theorem Zaw {e:Expr}{es:List Expr}{t:TG}{u:TGs} (h1:PG X e t) (h2:PGs X es u)
  (hs:(assignEach (e::es) X.env).map (·.2)=assign e X.env::(assignEach es X.env).map (·.2):=by rfl):PGs X (e::es) (gCons t u):=by
 intro pins s σ H vs us Q I r h
 obtain⟨v,vr,e1,h⟩:=h
 subst e1
 cases r with
 |cons r rr =>
  rw[hs]
  refine assignInOrder_cons (thn (h1 pins s σ H _ _ _ I r h) λ_ s1 ⟨σ1,H1,I1,q1⟩=>?_)
  exact h2 pins s1 σ1 H1 _ _ Q I1 rr q1
noncomputable def gTup (K:PySem.W.Frag) (n:Nat) (t:TGs):TG:=λv σ H Q=>∃a xs,v=.ref a/\SqT K H a xs/\xs.length=n/\t xs σ H Q
theorem ZgQ {es:List Expr}{k:Nat}{t:TGs}{n:Nat} (hc:X.calm=true) (h:PGs X es t)
  (hn:(assignEach es X.env).length=n:=by rfl) (hst:(assignEach es X.env).findIdx? (·.1)=none:=by rfl):PG X (.Tuple es k pos) (gTup X.K n t):=by
 intro pins s σ H v u Q I r hw
 obtain⟨a,xs,e1,hq,hl,hw⟩:=hw
 subst e1
 cases r
 obtain⟨its,rv,ht,hz⟩:=I.tuple hq
 refine assign_Tuple_tuple (I.ok.hd hc) ht (by simp[hn,<-hl,rv.length]) hst λh' hx=>?_
 have I1:Inv X pins σ H {s with heap:=h'}:=I.kept (t':=s.toks) λb o e=>hx b o (Yo (Yi e)) e
 exact h pins _ σ H xs _ Q I1 (by simpa using rv) hw
noncomputable def gSub (to ti:TE) (t:TSet):TG:=λv σ H Q=>to σ H λo H1=>ti σ H1 λi H2=>t o i v H2 λH3=>Q σ H3
theorem Zeo {o i:Expr}{to ti:TE}{t:TSet} (ho:PE X o to) (hi:PE X i ti) (hs:PSet X t)
  (ha:∀v,assign (.Subscript o i pos) X.env v=(do
   let ov <-holding [v] (eval o X.env)
   let iv <-holding [v,ov] (eval i X.env)
   standAt pos
   holding [v,ov,iv] (setItem ov iv v)
   release [v,ov,iv] []):=by intro _;rfl):PG X (.Subscript o i pos) (gSub to ti t):=by
 intro pins s σ H v u Q I r h
 rw[ha]
 refine Yb (wpAny_holding (thn (ho pins s σ H _ I h) λov s1 ⟨x,H1,I1,r1,q1⟩=>?_))
 refine Yb (wpAny_holding (thn (hi pins s1 σ H1 _ I1 q1) λiv s2 ⟨y,H2,I2,r2,q2⟩=>?_))
 refine Yb (wpAny_standAt (Yb (wpAny_holding (thn (hs pins s2 σ H2 x y v ov iv u _ I2 r1 r2 r q2) λ_ s3 ⟨H3,I3,q3⟩=>?_))))
 exact wpAny_release ⟨σ,H3,I3,q3⟩
noncomputable def tAsg (te:TE) (g:TG):TS:=λD σ H=>te σ H λx H1=>g x σ H1 D.nx
theorem ZbY {tg e:Expr}{te:TE}{g:TG} (he:PE X e te) (hg:PG X tg g) (hs:swapsWithSole [tg] e pos.line X.env=pure false:=by rfl) (hw:swappedStores [tg] e X.env=pure none:=by rfl)
  (h1:(assignEach [tg] X.env).map (·.2)=[assign tg X.env]:=by rfl):PS X (.Assign [tg] e pos) (tAsg te g):=by
 intro pins s σ H D I h
 refine wpAny_Assign_stores (thn (he pins s σ H _ I h) λv s1 ⟨x,H1,I1,r1,q1⟩=>?_) hs hw
 rw[h1]
 exact thn (hg pins s1 σ H1 x v _ I1 r1 q1) λ_ s2 q=>q
theorem Zt {i:Nat}{x:Str}{e:Expr}{te:TE}{pos':Pos} (hN:X.N.Nodup) (hi:X.N[i]?=some x) (hx:Loc X.env.scope x) (he:PE X e te) (hs:swapsWith e (some (.Name x pos')) pos.line X.env=pure false:=by rfl) (hf:X.fn x=true\/X.env.scope.names.lookup x=some .local:=by first|exact .inl rfl|exact .inr rfl|assumption) :
  PS X (.Assign [.Name x pos'] e pos) (tAsg te (gName i)):=by
 intro pins s σ H D I h
 refine wpAny_Assign_Name (thn (he pins s σ H _ I h) λv s1 ⟨y,H1,I1,r1,q1⟩=>?_) hs
 exact ZcS I1 hN hi hx r1 (λs2 I2=>⟨_,H1,I2,q1⟩) hf
noncomputable def tPar (i j:Nat) (ta:TA):TS:=λD σ H=>ta σ H λvs H1=>∃v w,vs=[v,w]/\D.nx ((σ.set i (some v)).set j (some w)) H1
theorem ps_par {i j:Nat}{x y:Str}{a b:Expr}{ta:TA}{px py pt:Pos} {kt k2 pt2} (hc:X.calm=true) (hN:X.N.Nodup) (hi:X.N[i]?=some x) (hj:X.N[j]?=some y) (hij:i≠j)
  (hx:X.env.scope.names.lookup x=some .local) (hy:X.env.scope.names.lookup y=some .local) (ha:PA X [a,b] ta)
  (hw:swappedStores [.Tuple [.Name x px,.Name y py] kt pt] (.Tuple [a,b] k2 pt2) X.env=pure (some [x,y]))
  (hs:swapsWithSole [.Tuple [.Name x px,.Name y py] kt pt] (.Tuple [a,b] k2 pt2) pos.line X.env=pure false:=by rfl) :
  PS X (.Assign [.Tuple [.Name x px,.Name y py] kt pt] (.Tuple [a,b] k2 pt2) pos) (tPar i j ta):=by
 intro pins s σ H D I h
 rw[exec_Assign_arm]
 refine Yb (wpAny_standAt ?_)
 rw[hs]
 refine Yb (Yg ?_)
 rw[Ya (by decide)]
 refine Yb (Tuple_ (thn (ha _ pins s σ H _ I h) λus s1 ⟨vs,H1,I1,r1,q1⟩=>?_))
 obtain⟨v,w,e1,q1⟩:=q1
 subst e1
 obtain⟨u1,u2,rfl,rv,rw'⟩:∃u1 u2,us=[u1,u2]/\RelV v u1/\RelV w u2:=by
  cases r1 with
  |cons p q =>
   cases q with
   |cons p' q' =>
    cases q'
    exact⟨_,_,rfl,p,p'⟩
 refine wpAny_newObj_type ?_ (by show 2<=sizeLine;decide)
 have I2:Inv X pins σ H1 {s1 with heap:=s1.heap.push {cls:=.type "tuple",data:=.seq [u1,u2].toArray}}:=I1.kept (t':=s1.toks) λb o e=>Ym _ e
 rw[hw]
 refine Yb (Yg ?_)
 show wpAny (model X.prog X.w) X.A (do rule "assign.swapped-stores";let items <-unpackItems (.ref s1.heap.objs.size) 2 none;assignInOrder [λv=>bindName X.env y v,λv=>bindName X.env x v] items.reverse;pure Flow.next) _ _ _
 refine Yb (wpAny_rule (Yb (unpackItems_tuple (items:=#[u1,u2]) (I.ok.hd hc) (IsTup.new s1.heap _) λh' hx'=>?_)))
 have I3:=I2.kept (h':=h') (t':=s1.toks) λb o e=>hx' b o (Yo (Yi e)) e
 show wpAny _ _ (assignInOrder [λv=>bindName X.env y v,λv=>bindName X.env x v] [u2,u1] >>= λ_=>pure Flow.next) _ _ _
 refine Yb (assignInOrder_cons (wpAny_bindName (ZcS I3 hN hj (.inl hy) rw' (λs2 I4=>?_) (.inr hy))))
 refine assignInOrder_cons (wpAny_bindName (ZcS I4 hN hi (.inl hx) rv (λs3 I5=>assignInOrder_nil (Yg ?_)) (.inr hx)))
 rw[List.set_comm _ _ (Ne.symm hij)]at I5
 exact⟨_,H1,I5,q1⟩
noncomputable def tAug (i:Nat) (te:TE) (ti:TIp):TS:=λD σ H=>∃x,σ[i]?=some (some x)/\te σ H λy H1=>ti x y H1 λz H2=>D.nx (σ.set i (some z)) H2
theorem ps_aug {i:Nat}{x:Str}{e:Expr}{te:TE}{op:Operator}{ti:TIp}{pos':Pos} (hN:X.N.Nodup) (hi:X.N[i]?=some x) (hx:Loc X.env.scope x) (he:PE X e te) (ho:PIp X op ti) (hf:X.fn x=true\/X.env.scope.names.lookup x=some .local:=by first|exact .inl rfl|exact .inr rfl|assumption) :
  PS X (.AugAssign (.Name x pos') op e pos) (tAug i te ti):=by
 intro pins s σ H D I h
 obtain⟨v,e1,h⟩:=h
 obtain⟨m,hn,hl⟩:=I.loc
 have vis:Vis X.env.scope x:=by rcases hx with k|k;exact .inl k;exact .inr (.inl k)
 obtain⟨u,r,l⟩:=hl i x v hi e1 vis
 refine wpAny_AugAssign_Name ?_
 have go:wpAny (model X.prog X.w) X.A (eval e X.env) (λw s₂=>wpAny (model X.prog X.w) X.A (inplaceOp op u w) (λr s₃=>wpAny (model X.prog X.w) X.A (storeName X.env x r) (λ_=>SP X pins D .next) X.xe s₃) X.xe s₂) X.xe s:=by
  refine thn (he pins s σ H _ I h) λw s1 ⟨y,H1,I1,r1,q1⟩=>?_
  refine thn (ho pins s1 σ H1 v y u w _ I1 r r1 q1) λz s2 ⟨zv,H2,I2,r2,q2⟩=>?_
  exact ZcS I2 hN hi hx r2 (λs3 I3=>⟨_,H2,I3,q2⟩) hf
 rcases l with⟨hk,hm⟩|⟨hk,c,hc,hcell⟩
 ·exact wpAny_loadName_local I.ok.kind hk hn hm go
 ·rcases hk with hk|hk
  ·exact wpAny_loadName_cell I.ok.kind hk hc hcell go
  ·rcases hx with k|k
   ·have:X.env.scope.names.lookup x=some .free:=hk
    rw[k]at this;cases this
   ·have:X.env.scope.names.lookup x=some .free:=hk
    rw[k]at this;cases this
noncomputable def ipI (f:Int->Int->Int):TIp:=λx y H Q=>∃i j,x=.int i/\y=.int j/\Q (.int (f i j)) H
theorem ip_sub:PIp X .Sub (ipI λi j=>i-j):=by
 intro pins s σ H x y v u Q I r1 r2 h
 obtain⟨i,j,e1,e2,q⟩:=h
 subst e1;subst e2
 obtain⟨t,rfl⟩:=r1
 obtain⟨t',rfl⟩:=r2
 exact isub_int ⟨.int _,H,I.tok _,⟨_,rfl⟩,q⟩
end
section
variable {X:Cx}{pos:Pos}
noncomputable def Zif (c:TT) (tb:TS):TS:=λD σ H=>∃W:Nat->St->Hp->Prop,(∃m,W m σ H)/\∀m σ H,W m σ H ->
 c σ H λb H1=>if b=true then ∃N:St->Hp->Prop,(∀σ' H',N σ' H'->∃m',m'<m/\W m' σ' H')/\tb {D with nx:=N,ct:=N,bk:=D.nx} σ H1 else D.nx σ H1
theorem Zkn {c:Expr}{body:List Stmt}{tc:TT}{tb:TS} (hp:PassesOwn (model X.prog X.w) X.A X.env X.xe) (hc:PT X c tc) (hb:PSs X body tb):PS X (.While c body [] pos) (Zif tc tb):=by
 intro pins s σ H D I h
 obtain⟨W,⟨m0,w0⟩,turn⟩:=h
 refine wpAny_While (codeAny_whileLoop (λn s'=>∃σ' H',Inv X pins σ' H' s'/\W n σ' H') ?_ m0 ⟨σ,H,I,w0⟩)
 rintro n s1 ⟨σ1,H1,I1,w1⟩
 refine wpAny_passesOwn hp (thn (hc pins s1 σ1 H1 _ I1 (turn n σ1 H1 w1)) λb s2 ⟨H2,I2,q2⟩=>?_)
 cases b with
 |true =>
  obtain⟨N,hN,q2⟩:=q2
  rw[Yc rfl]
  refine wpAny_passesOwn hp (thn (hb pins s2 σ1 H2 _ I2 q2) λf s3 q3=>?_)
  cases f with
  |next =>
   obtain⟨σ3,H3,I3,n3⟩:=q3
   obtain⟨m',hm,w3⟩:=hN σ3 H3 n3
   exact⟨m',hm,σ3,H3,I3,w3⟩
  |cont =>
   obtain⟨σ3,H3,I3,n3⟩:=q3
   obtain⟨m',hm,w3⟩:=hN σ3 H3 n3
   exact⟨m',hm,σ3,H3,I3,w3⟩
  |brk=>exact q3
  |ret v=>exact q3
 |false =>
  rw[Ya Ys]
  exact wpAny_execs_nil ⟨σ1,H2,I2,q2⟩
end
structure It where
 go:Nat->Hp->Prop
 yld:Nat->Hp->V->Hp->Prop
 stop:Nat->Hp->Prop
noncomputable def FpOk (X:Cx) (pins:List (Addr×Obj)) (H:Hp) (b:Addr):Prop :=
 H b=none/\b≠X.env.locals/\b∉X.fs/\(b∈X.ex\/X.s₀.heap.objs.size<=b)/\(∀x c,X.env.cells.lookup x=some c->c≠b)/\∀p∈X.pn++pins,p.1≠b
theorem Inv.fpOk {X:Cx}{pins:List (Addr×Obj)}{σ:St}{H H':Hp}{s:Shared}{b:Addr} (I:Inv X pins σ H s) (hb:s.heap.objs.size<=b) (hn:H' b=none):FpOk X pins H' b:=by
 refine⟨hn,Nat.ne_of_gt (Yp I.lt hb),I.nofs hb,.inr (Yh I.sz hb),λx c e z=>?_,λp hp z=>?_⟩
 ·obtain⟨v,q⟩:=I.cell x c e
  exact absurd (Yp q.lt (by rw[z];exact hb)) (YE _)
 ·exact absurd (Yp (Yi (I.pin p hp).1) (by rw[z];exact hb)) (YE _)
structure Turn (P:Program) (w:World) (K:PySem.W.Frag) (tg:Expr) (J:It) (fp:List Addr) (it:Addr) (tn:Nat->Heap->Prop):Prop where
 mem:it∈fp
 obj:∀i h,tn i h->∀b∈fp,∃o,h.get? b=some o/\∀v,o.data≠.cell v
 keep:∀i h h',tn i h->(∀b∈fp,∀o,h.get? b=some o->h'.get? b=some o)->tn i h'
 item:∀(X:Cx),X.prog=P->X.w=w->X.K=K->X.calm=true->∀(i:Nat) (pins:List (Addr×Obj)) (s:Shared) (σ:St) (H:Hp) (E:Value->Shared->Prop),Inv X pins σ H s->(∀b∈fp,FpOk X pins H b)->tn i s.heap->J.go i H ->
  wpAny (model P w) X.A (pyNext (.ref it)) (λr s1=>∃u,r=some u /\
   wpAny (model P w) X.A (letOwnedTupleGo tg (.ref it) u) (λ_ s2=>∃x H',Inv X pins σ H' s2/\RelV x u/\J.yld i H x H'/\tn (i+1) s2.heap/\∀b∈fp,H' b=none) E s1) E s
 done:∀(X:Cx),X.prog=P->X.w=w->X.K=K->X.calm=true->∀(i:Nat) (pins:List (Addr×Obj)) (s:Shared) (σ:St) (H:Hp) (E:Value->Shared->Prop),Inv X pins σ H s->(∀b∈fp,FpOk X pins H b)->tn i s.heap->J.stop i H ->
  wpAny (model P w) X.A (pyNext (.ref it)) (λr s1=>r=none/\Inv X pins σ H s1) E s
 self:∀(A:Around) (i:Nat) (s:Shared) (Q:Value->Shared->Prop) (E:Value->Shared->Prop),tn i s.heap->Q (.ref it) s->wpAny (model P w) A (pyIter (.ref it)) Q E s
noncomputable abbrev TI:=St->Hp->(It->Hp->Prop)->Prop
noncomputable def PIE (X:Cx) (pins:List (Addr×Obj)) (σ:St) (tg:Expr) (R:It->Hp->Prop) (itv:Value) (s2:Shared):Prop :=
 ∃(it:Addr) (fp:List Addr) (tn:Nat->Heap->Prop) (J:It) (H':Hp),itv=.ref it/\Inv X pins σ H' s2/\Turn X.prog X.w X.K tg J fp it tn/\tn 0 s2.heap/\(∀b∈fp,FpOk X pins H' b)/\R J H'
noncomputable def PI (X:Cx) (tg iter:Expr) (wi:TI):Prop :=
 ∀(pins:List (Addr×Obj)) (s:Shared) (σ:St) (H:Hp) (R:It->Hp->Prop),Inv X pins σ H s->wi σ H R ->
  wpAny (model X.prog X.w) X.A (eval iter X.env) (λv s1=>wpAny (model X.prog X.w) X.A (pyIter v) (PIE X pins σ tg R) X.xe s1) X.xe s
theorem Zko {M : Model} {A : Around} {E : Value → Shared → Prop} {s : Shared} {tg : Expr} {it : Addr} {u : Value} {o : Obj} {n : String} {vs : Array Value} {Q : Unit → Shared → Prop} (ho : s.heap.get? it = some o) (hc : o.cls = .type n) (hd : o.data = .fields vs)
    (hn : ["enumerate", "zip", "dict_itemiterator", "dict_reverseitemiterator", "odict_iterator", "itertools.zip_longest", "itertools.pairwise"].contains n = false) (hQ : Q () s) : wpAny M A (letOwnedTupleGo tg (.ref it) u) Q E s := by
  unfold letOwnedTupleGo
  cases tg <;> first
    | exact Yg hQ
    | (cases u <;> first
        | exact Yg hQ
        | (refine Yb (wpAny_load ho ?_)
           rw [hc, hd]
           show wpAny M A (if (["enumerate", "zip", "dict_itemiterator", "dict_reverseitemiterator", "odict_iterator", "itertools.zip_longest", "itertools.pairwise"].contains n && vs[0]? == some (rawInt _)) = true then _ else _) Q E s
           rw [Ya (by intro h; rw [hn, Bool.false_and] at h; cases h)]
           exact Yg hQ))
noncomputable def Itl (K:PySem.W.Frag) (a:Addr):It :=
 ⟨λi H=>∃xs x,SqL K H a xs/\xs[i]?=some x,λi H x H'=>H'=H/\∀xs,SqL K H a xs->xs[i]?=some x,λi H=>∃xs,SqL K H a xs/\xs.length<=i⟩
noncomputable def Itt (K:PySem.W.Frag) (a:Addr):It :=
 ⟨λi H=>∃xs x,SqT K H a xs/\xs[i]?=some x,λi H x H'=>H'=H/\∀xs,SqT K H a xs->xs[i]?=some x,λi H=>∃xs,SqT K H a xs/\xs.length<=i⟩
noncomputable def Itr (lo:Int) (n:Nat):It:=⟨λi _=>i<n,λi H x H'=>H'=H/\x=.int (lo+i),λi _=>n<=i⟩
theorem Zjq {P:Program}{w:World}{K:PySem.W.Frag}{tg:Expr} (a it:Addr):Turn P w K tg (Itl K a) [it] it (λi h=>h.IsListIter it a i) where
 mem:=by simp
 obj:=λi h st b hb=>by
  have e:b=it:=by simpa using hb
  subst e
  obtain⟨o,e,c,d⟩:=st
  exact⟨o,e,λv z=>by rw[d]at z;cases z⟩
 keep:=λi h h' st k=>st.at λo e=>k it (by simp) o e
 item:=by
  intro X hP hw hK hc i pins s σ H E I hf st hg
  subst hP hw hK
  obtain⟨xs,x,hq,hx⟩:=hg
  obtain⟨its,rv,p,hz⟩:=I.list hq
  obtain⟨u,hu,ru⟩:=rv.get hx
  obtain⟨f0,f1,f2,f3,f4,f5⟩:=hf it (by simp)
  refine wpAny_pyNext_list_item st p.isList (x:=u) (by simpa using hu) λh' st' sb=>?_
  have I1:Inv X pins σ H {s with heap:=h'}:=I.turned (t':=s.toks) (λb o hb e=>(sb.2 b hb).trans e) f0 f1 f3 f4 f5
  obtain⟨o,e,c,d⟩:=id st'
  exact⟨u,rfl,Zko (s:={s with heap:=h'}) e c d (by decide) ⟨x,H,I1,ru,⟨rfl,λys hy=>by rw[I.Zby hy hq];exact hx⟩,st',λb hb=>(hf b hb).1⟩⟩
 done:=by
  intro X hP hw hK hc i pins s σ H E I hf st hg
  subst hP hw hK
  obtain⟨xs,hq,hx⟩:=hg
  obtain⟨its,rv,p,hz⟩:=I.list hq
  obtain⟨f0,f1,f2,f3,f4,f5⟩:=hf it (by simp)
  have hl:=rv.length
  exact wpAny_pyNext_list_end (I.ok.hd hc) st p.isList (by simp;omega) λh' eb=>⟨rfl,I.turned (t':=s.toks) (λb o hb e=>eb b o hb e) f0 f1 f3 f4 f5⟩
 self:=λ_ _ _ _ _ st h=>wpAny_pyIter_listiter st h
theorem Zig {P:Program}{w:World}{K:PySem.W.Frag}{tg:Expr} (a it:Addr):Turn P w K tg (Itt K a) [it] it (λi h=>h.IsTupleIter it a i) where
 mem:=by simp
 obj:=λi h st b hb=>by
  have e:b=it:=by simpa using hb
  subst e
  obtain⟨o,e,c,d⟩:=st
  exact⟨o,e,λv z=>by rw[d]at z;cases z⟩
 keep:=λi h h' st k=>st.at λo e=>k it (by simp) o e
 item:=by
  intro X hP hw hK hc i pins s σ H E I hf st hg
  subst hP hw hK
  obtain⟨xs,x,hq,hx⟩:=hg
  obtain⟨its,rv,p,hz⟩:=I.tuple hq
  obtain⟨u,hu,ru⟩:=rv.get hx
  obtain⟨f0,f1,f2,f3,f4,f5⟩:=hf it (by simp)
  refine wpAny_pyNext_tuple_item st (show s.heap.IsTuple a its.toArray from p) (x:=u) (by simpa using hu) λh' st' sb=>?_
  have I1:Inv X pins σ H {s with heap:=h'}:=I.turned (t':=s.toks) (λb o hb e=>(sb.2 b hb).trans e) f0 f1 f3 f4 f5
  obtain⟨o,e,c,d⟩:=id st'
  exact⟨u,rfl,Zko (s:={s with heap:=h'}) e c d (by decide) ⟨x,H,I1,ru,⟨rfl,λys hy=>by rw[I.Zdk hy hq];exact hx⟩,st',λb hb=>(hf b hb).1⟩⟩
 done:=by
  intro X hP hw hK hc i pins s σ H E I hf st hg
  subst hP hw hK
  obtain⟨xs,hq,hx⟩:=hg
  obtain⟨its,rv,p,hz⟩:=I.tuple hq
  obtain⟨f0,f1,f2,f3,f4,f5⟩:=hf it (by simp)
  have hl:=rv.length
  exact wpAny_pyNext_tuple_end (I.ok.hd hc) st (show s.heap.IsTuple a its.toArray from p) (by simp;omega) λh' eb=>⟨rfl,I.turned (t':=s.toks) (λb o hb e=>eb b o hb e) f0 f1 f3 f4 f5⟩
 self:=λ_ _ _ _ _ st h=>wpAny_pyIter_tupleiter st h
theorem Zih {P:Program}{w:World}{K:PySem.W.Frag}{tg:Expr} (it:Addr) (lo:Int) (n:Nat):Turn P w K tg (Itr lo n) [it] it (λi h=>IsRangeIter h it (lo+(i:Nat)*1) ((n:Int)-(i:Nat)) 1) where
 mem:=by simp
 obj:=λi h st b hb=>by
  have e:b=it:=by simpa using hb
  subst e
  exact⟨_,st,λv z=>by
   have z':Data.fields _=Data.cell v:=z
   cases z'⟩
 keep:=λi h h' st k=>k it (by simp) _ st
 item:=by
  intro X hP hw hK hc i pins s σ H E I hf st hg
  subst hP hw hK
  obtain⟨f0,f1,f2,f3,f4,f5⟩:=hf it (by simp)
  have W:=Walks.range (prog:=X.prog) (w:=X.w) (I.ok.hd hc) it lo 1 n
  refine W.item i s _ _ hg st λv h' tk hv st' kk=>?_
  obtain⟨t,rfl⟩:=hv
  have I1:Inv X pins σ H {s with heap:=h',toks:=tk}:=I.turned (λb o hb e=>kk b o (by simpa using hb) e) f0 f1 f3 f4 f5
  refine⟨_,rfl,Zko (s:={s with heap:=h',toks:=tk}) (n:="range_iterator") st' rfl rfl (by decide) ⟨.int (lo+i),H,I1,⟨t,?_⟩,⟨rfl,rfl⟩,st',λb hb=>(hf b hb).1⟩⟩
  rw[Int.mul_one]
 done:=by
  intro X hP hw hK hc i pins s σ H E I hf st hg
  subst hP hw hK
  obtain⟨f0,f1,f2,f3,f4,f5⟩:=hf it (by simp)
  exact wpAny_pyNext_range_end (I.ok.hd hc) st (by have:n<=i:=hg;omega) λh' eb=>⟨rfl,I.turned (t':=s.toks) (λb o hb e=>eb b o hb e) f0 f1 f3 f4 f5⟩
 self:=λ_ _ _ _ _ st h=>wpAny_pyIter_rangeiter st h
section
variable {X:Cx}{tg:Expr}
noncomputable def iList (K:PySem.W.Frag) (tl:TE):TI:=fun σ H R=>tl σ H λx H1=>∃a,x=.ref a/\(∃xs,SqL K H1 a xs)/\R (Itl K a) H1
noncomputable def iTup (K:PySem.W.Frag) (tl:TE):TI:=fun σ H R=>tl σ H λx H1=>∃a,x=.ref a/\(∃xs,SqT K H1 a xs)/\R (Itt K a) H1
theorem ZgR {l:Expr}{tl:TE} (hl:PE X l tl):PI X tg l (iList X.K tl):=by
 intro pins s σ H R I h
 refine thn (hl pins s σ H _ I h) λv s1 ⟨x,H1,I1,r1,q1⟩=>?_
 obtain⟨a,e,⟨xs,hq⟩,q⟩:=q1
 subst e
 cases r1
 obtain⟨its,rv,p,hz⟩:=I1.list hq
 refine wpAny_pyIter_list p.isList ?_
 refine⟨s1.heap.objs.size,[s1.heap.objs.size],_,_,H1,rfl,I1.kept (t':=s1.toks) λb o e=>Ym _ e,Zjq a _,⟨_,Yz _ rfl,rfl,rfl⟩,λb hb=>?_,q⟩
 have e:b=s1.heap.objs.size:=by simpa using hb
 subst e
 exact I1.fpOk (Yd _) (I1.hok.fresh (Yd _))
theorem Zkp {l:Expr}{tl:TE} (hl:PE X l tl):PI X tg l (iTup X.K tl):=by
 intro pins s σ H R I h
 refine thn (hl pins s σ H _ I h) λv s1 ⟨x,H1,I1,r1,q1⟩=>?_
 obtain⟨a,e,⟨xs,hq⟩,q⟩:=q1
 subst e
 cases r1
 obtain⟨its,rv,p,hz⟩:=I1.tuple hq
 refine wpAny_pyIter_tuple (show s1.heap.IsTuple a its.toArray from p) ?_
 refine⟨s1.heap.objs.size,[s1.heap.objs.size],_,_,H1,rfl,I1.kept (t':=s1.toks) λb o e=>Ym _ e,Zig a _,⟨_,Yz _ rfl,rfl,rfl⟩,λb hb=>?_,q⟩
 have e:b=s1.heap.objs.size:=by simpa using hb
 subst e
 exact I1.fpOk (Yd _) (I1.hok.fresh (Yd _))
theorem Zhs {pins:List (Addr×Obj)}{σ:St}{H:Hp}{s:Shared}{R:It->Hp->Prop}{E:Value->Shared->Prop}{lo hi:Int}{t u v:Tok}{tk:Nat} (I:Inv X pins σ H s) (h1:-(2 ^ 62)<=lo) (h2:lo<2 ^ 62) (h3:-(2 ^ 62)<=hi) (h4:hi<2 ^ 62)
  (q:R (Itr lo (hi-lo).toNat) H):wpAny (model X.prog X.w) X.A (pyIter (.ref s.heap.objs.size)) (PIE X pins σ tg R) E {s with heap:=s.heap.push {cls:=.type "range",data:=.fields #[.int lo t,.int hi u,.int 1 v]},toks:=tk}:=by
 refine wpAny_pyIter_range (IsRange.new ..) (small_one h1 h2 h3 h4) ?_
 have I1:Inv X pins σ H {s with heap:=s.heap.push {cls:=.type "range",data:=.fields #[.int lo t,.int hi u,.int 1 v]},toks:=tk}:=I.kept λb o e=>Ym _ e
 refine⟨(s.heap.push {cls:=.type "range",data:=.fields #[.int lo t,.int hi u,.int 1 v]}).objs.size,[(s.heap.push {cls:=.type "range",data:=.fields #[.int lo t,.int hi u,.int 1 v]}).objs.size],_,_,H,rfl,
  I1.kept (t':=tk) λb o e=>Ym _ e,Zih _ lo (hi-lo).toNat,?_,λb hb=>?_,q⟩
 ·have e1:lo+((0:Nat):Int)*1=lo:=by simp
  have e2:(((hi-lo).toNat:Nat):Int)-((0:Nat):Int)=Builtin.Range.rangeSize lo hi 1:=by rw[rangeSize_one];split<;>omega
  show IsRangeIter _ _ (lo+((0:Nat):Int)*1) ((((hi-lo).toNat:Nat):Int)-((0:Nat):Int)) 1
  rw[e1,e2]
  exact Yz _ rfl
 ·have e:b=(s.heap.push {cls:=.type "range",data:=.fields #[.int lo t,.int hi u,.int 1 v]}).objs.size:=by simpa using hb
  subst e
  exact I1.fpOk (Yd _) (I1.hok.fresh (Yd _))
noncomputable def iRng1 (ta:TA):TI:=fun σ H R=>ta σ H λvs H1=>∃j:Int,vs=[.int j]/\-(2 ^ 62)<=j/\j<2 ^ 62/\R (Itr 0 j.toNat) H1
noncomputable def iRng2 (ta:TA):TI:=fun σ H R=>ta σ H λvs H1=>∃i j:Int,vs=[.int i,.int j]/\(-(2 ^ 62)<=i/\i<2 ^ 62/\-(2 ^ 62)<=j/\j<2 ^ 62)/\R (Itr i (j-i).toNat) H1
theorem ZI {a:Expr}{ta:TA}{p pos:Pos} (hg:Gl X "range") (hm:X.mg "range"=none) (ha:PA X [a] ta) (hs:starEach [a] X.env=[(false,eval a X.env)]:=by rfl):PI X tg (.Call (.Name "range" p) [a] [] pos) (iRng1 ta):=by
 intro pins s σ H R I h
 refine Call_ (Zen I hg hm boot_range (PyProof.Rows.callWith_type1 (thn (ha pos pins s σ H _ I h) λus s1 ⟨vs,H1,I1,r1,q1⟩=>?_) hs rfl))
 obtain⟨j,e,q1,q2,q⟩:=q1
 subst e
 cases r1 with
 |cons r rr =>
  cases rr
  obtain⟨t,rfl⟩:=r
  exact call_range_1 (Zhs I1 (by omega) (by omega) q1 q2 (by simpa using q))
theorem Zep {a b:Expr}{ta:TA}{p pos:Pos} (hg:Gl X "range") (hm:X.mg "range"=none) (ha:PA X [a,b] ta) (hs:starEach [a,b] X.env=[(false,eval a X.env),(false,eval b X.env)]:=by rfl) (hs2:starEach [b] X.env=[(false,eval b X.env)]:=by rfl) :
  PI X tg (.Call (.Name "range" p) [a,b] [] pos) (iRng2 ta):=by
 intro pins s σ H R I h
 refine Call_ (Zen I hg hm boot_range (PyProof.Rows.callWith_type1 (thn (ha pos pins s σ H _ I h) λus s1 ⟨vs,H1,I1,r1,q1⟩=>?_) (by rw[hs,hs2]) (by rw[hs2];rfl)))
 obtain⟨i,j,e,⟨q1,q2,q3,q4⟩,q⟩:=q1
 subst e
 cases r1 with
 |cons r rr =>
  cases rr with
  |cons r' rr =>
   cases rr
   obtain⟨t,rfl⟩:=r
   obtain⟨t',rfl⟩:=r'
   exact call_range_2 (Zhs I1 q1 q2 q3 q4 q)
noncomputable def tFor (wi:TI) (g:TG) (tb:TS):TS:=λD σ H=>wi σ H λJ H1=>∃W:Nat->Nat->St->Hp->Prop,(∃m,W 0 m σ H1)/\∀i m σ H,W i m σ H ->
 (J.stop i H/\D.nx σ H)\/(J.go i H/\∃N:St->Hp->Prop,(∀σ' H',N σ' H'->∃m',m'<m/\W (i+1) m' σ' H')/\∀x H',J.yld i H x H'->g x σ H' fun σ2 H2=>tb {D with nx:=N,ct:=N,bk:=D.nx} σ2 H2)
noncomputable def ZcU (fp:List Addr) (h:Heap):List (Addr×Obj):=fp.filterMap λb=>(h.get? b).map λo=>(b,o)
theorem Zck {fp:List Addr}{h:Heap}{b:Addr}{o:Obj} (hb:b∈fp) (e:h.get? b=some o):(b,o)∈ZcU fp h:=List.mem_filterMap.mpr ⟨b,hb,by rw[e];rfl⟩
theorem Zgl {fp:List Addr}{h:Heap}{p:Addr×Obj} (hp:p∈ZcU fp h):p.1∈fp/\h.get? p.1=some p.2:=by
 obtain⟨b,hb,e⟩:=List.mem_filterMap.mp hp
 cases q:h.get? b with
 |none=>rw[q]at e;cases e
 |some o =>
  rw[q]at e
  have e':(b,o)=p:=YA e
  subst e'
  exact⟨hb,q⟩
theorem Inv.pinned {pins:List (Addr×Obj)}{σ:St}{H:Hp}{s:Shared}{fp:List Addr} (I:Inv X pins σ H s) (hf:∀b∈fp,FpOk X pins H b) (ho:∀b∈fp,∃o,s.heap.get? b=some o/\∀v,o.data≠.cell v):Inv X (pins++ZcU fp s.heap) σ H s :=
 I.ZdX λp hp=>(Yq.mp hp).elim (λz=>I.pin p (Yt _ z)) λz=>by
  obtain⟨hb,e⟩:=Zgl z
  obtain⟨f0,f1,f2,_⟩:=hf p.1 hb
  obtain⟨o,e',d⟩:=ho p.1 hb
  rw[e]at e';cases e'
  exact⟨e,f0,f1,f2,d⟩
theorem Inv.ZcV {pins pl:List (Addr×Obj)}{σ:St}{H:Hp}{s:Shared} (I:Inv X (pins++pl) σ H s):Inv X pins σ H s:=I.ZdX λp hp=>I.pin p (Yt _ (YJ _ hp))
theorem ZcW {iter:Expr}{body:List Stmt}{wi:TI}{g:TG}{tb:TS}{pos:Pos} (hp:PassesOwn (model X.prog X.w) X.A X.env X.xe) (hc:X.calm=true) (hi:PI X tg iter wi) (hg:PG X tg g) (hb:PSs X body tb)
  (hs:∀x,foldedSetIterable iter X.env x=pure x:=by intro _;rfl):PS X (.For tg iter body [] pos) (tFor wi g tb):=by
 intro pins s σ H D I h
 refine wpAny_For (thn (hi pins s σ H _ I h) λv s1 h1=>thn h1 λitv s2 h2=>?_) hs
 obtain⟨it,fp,tn,J,H2,e,I2,T,st2,f2,W,⟨m0,w0⟩,turn⟩:=h2
 subst e
 -- what stays true of the iterator's objects through the loop
 have stat:∀{H':Hp},(∀b∈fp,H' b=none)->∀b∈fp,FpOk X pins H' b:=λhn b hb=>⟨hn b hb,(f2 b hb).2⟩
 refine codeAny_forLoop_any (λn s'=>∃i σ' H',Inv X pins σ' H' s'/\tn i s'.heap/\(∀b∈fp,H' b=none)/\W i n σ' H') ?_ m0 ⟨0,σ,H2,I2,st2,λb hb=>(f2 b hb).1,w0⟩
 rintro n s3 ⟨i,σ3,H3,I3,st3,fr3,w3⟩
 rcases turn i n σ3 H3 w3 with⟨stop,qn⟩|⟨go,N,hN,step⟩
 ·refine wpAny_passesOwn hp (thn (T.done X rfl rfl rfl hc i pins s3 σ3 H3 X.xe I3 (stat fr3) st3 stop) λr s4 ⟨hr,I4⟩=>?_)
  subst hr
  exact wpAny_execs_nil ⟨σ3,H3,I4,qn⟩
 ·refine wpAny_passesOwn hp (thn (T.item X rfl rfl rfl hc i pins s3 σ3 H3 X.xe I3 (stat fr3) st3 go) λr s4 ⟨u,hr,h4⟩=>?_)
  subst hr
  refine wpAny_passesOwn hp (thn h4 λ_ s5 ⟨x,H5,I5,r5,y5,st5,fr5⟩=>?_)
  have I5':=I5.pinned (stat fr5) (T.obj _ _ st5)
  refine wpAny_passesOwn hp (thn (hg _ s5 σ3 H5 x u _ I5' r5 (step x H5 y5)) λ_ s6 ⟨σ6,H6,I6,q6⟩=>?_)
  refine wpAny_passesOwn hp (thn (hb _ s6 σ6 H6 _ I6 q6) λf s7 q7=>?_)
  have again:∀{σ7:St}{H7:Hp},Inv X (pins++ZcU fp s5.heap) σ7 H7 s7->N σ7 H7->∃m,m<n/\∃i σ' H',Inv X pins σ' H' s7/\tn i s7.heap/\(∀b∈fp,H' b=none)/\W i m σ' H':=λ{σ7 H7} I7 n7=>by
   obtain⟨m',hm,w7⟩:=hN σ7 H7 n7
   refine⟨m',hm,i+1,σ7,H7,I7.ZcV,T.keep _ _ _ st5 λb hb o e=>(I7.pin (b,o) (Yt _ (Yt _ (Zck hb e)))).1,λb hb=>?_,w7⟩
   obtain⟨o,e,d⟩:=T.obj _ _ st5 b hb
   exact(I7.pin (b,o) (Yt _ (Yt _ (Zck hb e)))).2.1
  cases f with
  |next=>obtain⟨σ7,H7,I7,n7⟩:=q7;exact again I7 n7
  |cont=>obtain⟨σ7,H7,I7,n7⟩:=q7;exact again I7 n7
  |brk=>obtain⟨σ7,H7,I7,q7⟩:=q7;exact⟨σ7,H7,I7.ZcV,q7⟩
  |ret v=>obtain⟨x7,σ7,H7,I7,r7,q7⟩:=q7;exact⟨x7,σ7,H7,I7.ZcV,r7,q7⟩
end
theorem Zbw {lo:Int}{n:Nat}{g:TG}{tb:TS}{D:Ends}{σ:St}{H:Hp} (Pv:Nat->St->Hp->Prop) (h0:Pv 0 σ H)
  (hs:∀i σ H,i<n->Pv i σ H->g (.int (lo+i)) σ H fun σ2 H2=>tb {D with nx:=Pv (i+1),ct:=Pv (i+1),bk:=D.nx} σ2 H2) (hd:∀σ H,Pv n σ H->D.nx σ H) :
  ∃W:Nat->Nat->St->Hp->Prop,(∃m,W 0 m σ H)/\∀i m σ H,W i m σ H ->
   ((Itr lo n).stop i H/\D.nx σ H)\/((Itr lo n).go i H/\∃N:St->Hp->Prop,(∀σ' H',N σ' H'->∃m',m'<m/\W (i+1) m' σ' H')/\∀x H',(Itr lo n).yld i H x H'->g x σ H' fun σ2 H2=>tb {D with nx:=N,ct:=N,bk:=D.nx} σ2 H2):=by
 refine⟨λi m σ H=>m=n-i/\i<=n/\Pv i σ H,⟨n,by simp,Yu _,h0⟩,?_⟩
 rintro i m σ H ⟨rfl,hi,p⟩
 by_cases hlt:i<n
 ·refine .inr ⟨hlt,Pv (i+1),fun σ' H' p'=>⟨n-(i+1),by omega,rfl,hlt,p'⟩,λx H' y=>?_⟩
  obtain⟨e,y⟩:=y
  subst e y
  exact hs i σ _ hlt p
 ·have e:i=n:=by omega
  subst e
  exact .inl ⟨Yd _,hd σ H p⟩
noncomputable abbrev R2:=V->V->Hp->VK->Prop
noncomputable def OpR (X:Cx) (f:Value->Value->Sem Value) (r:R2):Prop :=
 ∀(pins:List (Addr×Obj)) (s:Shared) (σ:St) (H:Hp) (x y:V) (v u:Value) (Q:VK),Inv X pins σ H s->RelV x v->RelV y u->r x y H Q ->
  wpAny (model X.prog X.w) X.A (f v u) (EP X pins σ Q) X.xe s
noncomputable def UnR (X:Cx) (f:Value->Sem Value) (r:V->Hp->VK->Prop):Prop :=
 ∀(pins:List (Addr×Obj)) (s:Shared) (σ:St) (H:Hp) (x:V) (v:Value) (Q:VK),Inv X pins σ H s->RelV x v->r x H Q ->
  wpAny (model X.prog X.w) X.A (f v) (EP X pins σ Q) X.xe s
noncomputable def Zbb (X:Cx) (f:Value) (r:List V->Hp->VK->Prop):Prop :=
 ∀(pins:List (Addr×Obj)) (s:Shared) (σ:St) (H:Hp) (xs:List V) (us:List Value) (Q:VK),Inv X pins σ H s->Vals xs us->r xs H Q ->
  wpAny (model X.prog X.w) X.A (call f us) (EP X pins σ Q) X.xe s
noncomputable def TruR (X:Cx) (r:V->Hp->(Bool->Hp->Prop)->Prop):Prop :=
 ∀(pins:List (Addr×Obj)) (s:Shared) (σ:St) (H:Hp) (x:V) (v:Value) (Q:Bool->Hp->Prop),Inv X pins σ H s->RelV x v->r x H Q ->
  wpAny (model X.prog X.w) X.A (truthy v) (TP X pins σ Q) X.xe s
noncomputable def tOp (r:R2) (ta tb:TE):TE:=fun σ H Q=>ta σ H λx H1=>tb σ H1 λy H2=>r x y H2 Q
noncomputable def tUn (r:V->Hp->VK->Prop) (ta:TE):TE:=fun σ H Q=>ta σ H λx H1=>r x H1 Q
noncomputable def rI (C:Int->Int->Prop) (g:Int->Int->V):R2:=λx y H Q=>∃i j,x=.int i/\y=.int j/\C i j/\Q (g i j) H
noncomputable def rI0 (g:Int->Int->V):R2:=λx y H Q=>∃i j,x=.int i/\y=.int j/\Q (g i j) H
noncomputable def rU (g:Int->V):V->Hp->VK->Prop:=λx H Q=>∃i,x=.int i/\Q (g i) H
section
variable {X:Cx}{a b c:Expr}{ta tb tc:TE}{pos:Pos}
theorem binT (ha:PE X a ta) (hb:PE X b tb) {pins:List (Addr×Obj)}{s:Shared}{σ:St}{H:Hp}{R:V->V->Hp->Prop} (I:Inv X pins σ H s)
  (h:ta σ H λx H1=>tb σ H1 λy H2=>R x y H2) {Q:Value->Shared->Prop}{f:Value->Value->Sem Value}
  (hf:∀v u s2 x y H2,Inv X pins σ H2 s2->RelV x v->RelV y u->R x y H2->wpAny (model X.prog X.w) X.A (f v u) Q X.xe s2) :
  wpAny (model X.prog X.w) X.A (eval a X.env) (λv s₁=>wpAny (model X.prog X.w) X.A (eval b X.env) (λu s₂=>wpAny (model X.prog X.w) X.A (f v u) Q X.xe s₂) X.xe s₁) X.xe s:=by
 refine thn (ha pins s σ H _ I h) λv s1 ⟨x,H1,I1,r1,q1⟩=>?_
 refine thn (hb pins s1 σ H1 _ I1 q1) λu s2 ⟨y,H2,I2,r2,q2⟩=>?_
 exact hf v u s2 x y H2 I2 r1 r2 q2
theorem Zl {op:Operator}{r:R2} (ho:OpR X (binaryOp op) r) (ha:PE X a ta) (hb:PE X b tb):PE X (.BinOp a op b pos) (tOp r ta tb):=by
 intro pins s σ H Q I h
 exact wpAny_BinOp (binT ha hb I h λv u s2 x y H2 I2 rx ry q=>ho pins s2 σ H2 x y v u Q I2 rx ry q)
theorem ZcN {op:UnaryOp}{r:V->Hp->VK->Prop} (ho:UnR X (unaryOp op) r) (ha:PE X a ta):PE X (.UnaryOp op a pos) (tUn r ta):=by
 intro pins s σ H Q I h
 exact UnaryOp_ (thn (ha pins s σ H _ I h) λv s1 ⟨x,H1,I1,r1,q1⟩=>ho pins s1 σ H1 x v Q I1 r1 q1)
theorem opI {f:Value->Value->Sem Value}{C:Int->Int->Prop}{g:Int->Int->Int}
  (rule:∀(i j:Int) (t u:Tok) (s:Shared) (Q:Value->Shared->Prop) (E:Value->Shared->Prop),C i j->Q (.int (g i j) s.toks) {s with toks:=s.toks+1}->wpAny (model X.prog X.w) X.A (f (.int i t) (.int j u)) Q E s) :
  OpR X f (rI C λi j=>.int (g i j)):=by
 intro pins s σ H x y v u Q I rx ry h
 obtain⟨i,j,rfl,rfl,hc,q⟩:=h
 obtain⟨t,rfl⟩:=rx
 obtain⟨t',rfl⟩:=ry
 exact rule i j t t' s _ _ hc ⟨.int (g i j),H,I.tok _,⟨_,rfl⟩,q⟩
theorem opI0 {f:Value->Value->Sem Value}{g:Int->Int->Int}
  (rule:∀(i j:Int) (t u:Tok) (s:Shared) (Q:Value->Shared->Prop) (E:Value->Shared->Prop),Q (.int (g i j) s.toks) {s with toks:=s.toks+1}->wpAny (model X.prog X.w) X.A (f (.int i t) (.int j u)) Q E s) :
  OpR X f (rI0 λi j=>.int (g i j)):=by
 intro pins s σ H x y v u Q I rx ry h
 obtain⟨i,j,rfl,rfl,q⟩:=h
 obtain⟨t,rfl⟩:=rx
 obtain⟨t',rfl⟩:=ry
 exact rule i j t t' s _ _ ⟨.int (g i j),H,I.tok _,⟨_,rfl⟩,q⟩
theorem opB0 {f:Value->Value->Sem Value}{g:Int->Int->Bool}
  (rule:∀(i j:Int) (t u:Tok) (s:Shared) (Q:Value->Shared->Prop) (E:Value->Shared->Prop),Q (.bool (g i j)) s->wpAny (model X.prog X.w) X.A (f (.int i t) (.int j u)) Q E s) :
  OpR X f (rI0 λi j=>.bl (g i j)):=by
 intro pins s σ H x y v u Q I rx ry h
 obtain⟨i,j,rfl,rfl,q⟩:=h
 obtain⟨t,rfl⟩:=rx
 obtain⟨t',rfl⟩:=ry
 exact rule i j t t' s _ _ ⟨.bl (g i j),H,I,rfl,q⟩
noncomputable def Zii (i j:Int):Prop:=0<=j/\j<=1000000/\i.natAbs<2 ^ 64
theorem Zad:OpR X (binaryOp .Add) (rI0 λi j=>.int (i+j)):=opI0 λ_ _ _ _ _ _ _ q=>add_int q
theorem ZaZ:OpR X (binaryOp .Sub) (rI0 λi j=>.int (i-j)):=opI0 λ_ _ _ _ _ _ _ q=>sub_int q
theorem ZcX:OpR X (binaryOp .Mod) (rI (λ_ j=>0<j) λi j=>.int (i % j)):=opI λi j _ _ _ _ _ hc q=>by
 have h1:(0:Int)<j:=hc
 exact mod_int' (by omega) (by rw[Int.fmod_eq_emod_of_nonneg i (by omega)];exact q)
theorem ZdG:OpR X (binaryOp .Pow) (rI Zii λi j=>.int (i ^ j.toNat)):=opI λ_ _ _ _ _ _ _ hc q=>pow_int_small hc.1 hc.2.1 hc.2.2 q
theorem unI {f:Value->Sem Value}{g:Int->Int}
  (rule:∀(i:Int) (t:Tok) (s:Shared) (Q:Value->Shared->Prop) (E:Value->Shared->Prop),Q (.int (g i) s.toks) {s with toks:=s.toks+1}->wpAny (model X.prog X.w) X.A (f (.int i t)) Q E s) :
  UnR X f (rU λi=>.int (g i)):=by
 intro pins s σ H x v Q I rx h
 obtain⟨i,rfl,q⟩:=h
 obtain⟨t,rfl⟩:=rx
 exact rule i t s _ _ ⟨.int (g i),H,I.tok _,⟨_,rfl⟩,q⟩
theorem Zbh:UnR X (unaryOp .USub) (rU λi=>.int (-i)):=unI λ_ _ _ _ _ q=>neg_int q
end
noncomputable def Zht:V->V->Bool
 |.non,.non=>true|.non,.int _=>true|.int _,.non=>true|.non,.bl _=>true|.bl _,.non=>true|.non,.str _=>true|.str _,.non=>true
 |.int _,.int _=>true|.bl _,.bl _=>true|.str _,.str _=>true|.byt _,.byt _=>true
 |.int _,.str _=>true|.str _,.int _=>true|.bl _,.str _=>true|.str _,.bl _=>true
 |_,_=>false
noncomputable def rEq:R2:=λx y H Q=>Zht x y=true/\Q (.bl (decide (x=y))) H
noncomputable def rNe:R2:=λx y H Q=>Zht x y=true/\Q (.bl (!decide (x=y))) H
theorem ZiQ {i j:Int}:decide (V.int i=V.int j)=(i==j):=by
 rw[Bool.eq_iff_iff]
 simp
theorem Zkq {i j:Bool}:decide (V.bl i=V.bl j)=(i==j):=by
 rw[Bool.eq_iff_iff]
 simp
theorem ZiR {i j:Str}:decide (V.str i=V.str j)=(i==j):=by
 rw[Bool.eq_iff_iff]
 simp
theorem ZiS {i j:Array UInt8}:decide (V.byt i=V.byt j)=(i.toList==j.toList):=by
 rw[Bool.eq_iff_iff]
 cases i
 cases j
 simp
section
variable {X:Cx}{a b c:Expr}{ta tb tc:TE}{pos:Pos}
theorem Zw {pins:List (Addr×Obj)}{σ:St}{H:Hp}{s:Shared}{Q:VK}{k k':Bool} (I:Inv X pins σ H s) (q:Q (.bl k) H) (e:k=k'):EP X pins σ Q (.bool k') s:=by
 subst e
 exact⟨.bl k,H,I,rfl,q⟩
theorem Zdx:OpR X (compareOp .Eq) rEq:=by
 intro pins s σ H x y v u Q I rx ry h
 obtain⟨hs,q⟩:=h
 cases x with
 |non =>
  cases rx
  cases y with
  |non=>cases ry;exact PySem.EqNone.eq_none_none (Zw I q (by simp))
  |bl j=>cases ry;exact PySem.EqNone.eq_none_bool (Zw I q (by simp))
  |int j=>obtain⟨t',rfl⟩:=ry;exact PySem.EqNone.eq_none_int (Zw I q (by simp))
  |str j=>obtain⟨t',rfl⟩:=ry;exact PySem.EqNone.eq_none_str (Zw I q (by simp))
  |_=>exact absurd (show false=true from hs) Ys
 |bl i =>
  cases rx
  cases y with
  |non=>cases ry;exact PySem.EqNone.eq_bool_none (Zw I q (by simp))
  |bl j=>cases ry;exact eq_bool (Zw I q Zkq)
  |str j=>obtain⟨t',rfl⟩:=ry;exact PySem.EqMixed.eq_bool_str (Zw I q (by simp))
  |_=>exact absurd (show false=true from hs) Ys
 |int i =>
  obtain⟨t,rfl⟩:=rx
  cases y with
  |non=>cases ry;exact PySem.EqNone.eq_int_none (Zw I q (by simp))
  |int j=>obtain⟨t',rfl⟩:=ry;exact eq_int (Zw I q ZiQ)
  |str j=>obtain⟨t',rfl⟩:=ry;exact PySem.EqMixed.eq_int_str (Zw I q (by simp))
  |_=>exact absurd (show false=true from hs) Ys
 |str i =>
  obtain⟨t,rfl⟩:=rx
  cases y with
  |non=>cases ry;exact PySem.EqNone.eq_str_none (Zw I q (by simp))
  |bl j=>cases ry;exact PySem.EqMixed.eq_str_bool (Zw I q (by simp))
  |int j=>obtain⟨t',rfl⟩:=ry;exact PySem.EqMixed.eq_str_int (Zw I q (by simp))
  |str j=>obtain⟨t',rfl⟩:=ry;exact eq_str (Zw I q ZiR)
  |_=>exact absurd (show false=true from hs) Ys
 |byt i =>
  obtain⟨t,rfl⟩:=rx
  cases y with
  |byt j=>obtain⟨t',rfl⟩:=ry;exact PySem.W.eq_bytes (Zw I q ZiS)
  |_=>exact absurd (show false=true from hs) Ys
 |_=>cases y<;>exact absurd (show false=true from hs) Ys
theorem Zkr:OpR X (compareOp .NotEq) rNe:=by
 intro pins s σ H x y v u Q I rx ry h
 obtain⟨hs,q⟩:=h
 cases x with
 |non =>
  cases rx
  cases y with
  |non=>cases ry;exact PySem.EqNone.ne_none_none (Zw I q (by simp))
  |bl j=>cases ry;exact PySem.EqNone.ne_none_bool (Zw I q (by simp))
  |int j=>obtain⟨t',rfl⟩:=ry;exact PySem.EqNone.ne_none_int (Zw I q (by simp))
  |str j=>obtain⟨t',rfl⟩:=ry;exact PySem.EqNone.ne_none_str (Zw I q (by simp))
  |_=>exact absurd (show false=true from hs) Ys
 |bl i =>
  cases rx
  cases y with
  |non=>cases ry;exact PySem.EqNone.ne_bool_none (Zw I q (by simp))
  |bl j=>cases ry;exact ne_bool (Zw I q (congrArg not Zkq))
  |str j=>obtain⟨t',rfl⟩:=ry;exact PySem.EqMixed.ne_bool_str (Zw I q (by simp))
  |_=>exact absurd (show false=true from hs) Ys
 |int i =>
  obtain⟨t,rfl⟩:=rx
  cases y with
  |non=>cases ry;exact PySem.EqNone.ne_int_none (Zw I q (by simp))
  |int j=>obtain⟨t',rfl⟩:=ry;exact ne_int (Zw I q (congrArg not ZiQ))
  |str j=>obtain⟨t',rfl⟩:=ry;exact PySem.EqMixed.ne_int_str (Zw I q (by simp))
  |_=>exact absurd (show false=true from hs) Ys
 |str i =>
  obtain⟨t,rfl⟩:=rx
  cases y with
  |non=>cases ry;exact PySem.EqNone.ne_str_none (Zw I q (by simp))
  |bl j=>cases ry;exact PySem.EqMixed.ne_str_bool (Zw I q (by simp))
  |int j=>obtain⟨t',rfl⟩:=ry;exact PySem.EqMixed.ne_str_int (Zw I q (by simp))
  |str j=>obtain⟨t',rfl⟩:=ry;exact ne_str (Zw I q (congrArg not ZiR))
  |_=>exact absurd (show false=true from hs) Ys
 |byt i =>
  obtain⟨t,rfl⟩:=rx
  cases y with
  |byt j=>obtain⟨t',rfl⟩:=ry;exact PySem.W.ne_bytes (Zw I q (congrArg not ZiS))
  |_=>exact absurd (show false=true from hs) Ys
 |_=>cases y<;>exact absurd (show false=true from hs) Ys
theorem Zgm:OpR X (compareOp .Lt) (rI0 λi j=>.bl (decide (i<j))):=opB0 λ_ _ _ _ _ _ _ q=>lt_int q
theorem op_le:OpR X (compareOp .LtE) (rI0 λi j=>.bl (decide (i<=j))):=opB0 λ_ _ _ _ _ _ _ q=>le_int q
theorem ZcY:OpR X (compareOp .Gt) (rI0 λi j=>.bl (decide (j<i))):=opB0 λ_ _ _ _ _ _ _ q=>gt_int q
theorem Zks:OpR X (compareOp .GtE) (rI0 λi j=>.bl (decide (j<=i))):=opB0 λ_ _ _ _ _ _ _ q=>ge_int q
theorem op_isN:OpR X (compareOp .Is) (λx y H Q=>y=.non/\Q (.bl (decide (x=.non))) H):=by
 intro pins s σ H x y v u Q I rx ry h
 obtain⟨rfl,q⟩:=h
 cases ry
 refine is_none_gen (Zw I q ?_)
 cases x<;>first
  |(cases rx;rfl)
  |(obtain⟨t,rfl⟩:=rx;rfl)
theorem Zp (b:Expr) {op:CmpOp} (h:op≠.In:=by decide) (h2:op≠.NotIn:=by decide):behindInMarks op b=false:=by
 have e1:(op==CmpOp.In)=false:=by cases op<;>first|rfl|exact absurd rfl h
 have e2:(op==CmpOp.NotIn)=false:=by cases op<;>first|rfl|exact absurd rfl h2
 cases b<;>simp[behindInMarks,e1,e2]
theorem Zfh {op:CmpOp}{r:R2} (ho:OpR X (compareOp op) r) (ha:PE X a ta) (hb:PE X b tb) (hm:behindInMarks op b=false):PE X (.Compare a [op] [b] pos) (tOp r ta tb):=by
 intro pins s σ H Q I h
 exact wpAny_Compare1 (binT ha hb I h λv u s2 x y H2 I2 rx ry q=>ho pins s2 σ H2 x y v u Q I2 rx ry q) hm
noncomputable def tTest (t:TE):TT:=fun σ H Q=>t σ H λx H'=>∃k,x=.bl k/\Q k H'
theorem Zn {op:CmpOp}{r:R2} (ho:OpR X (compareOp op) r) (ha:PE X a ta) (hb:PE X b tb) (hm:behindInMarks op b=false):PT X (.Compare a [op] [b] pos) (tTest (tOp r ta tb)):=by
 intro pins s σ H Q I h
 refine wpAny_isTrue_Compare1 (thn (ha pins s σ H _ I h) λv s1 ⟨x,H1,I1,r1,q1⟩=>thn (hb pins s1 σ H1 _ I1 q1) λu s2 ⟨y,H2,I2,r2,q2⟩ =>
  thn (ho pins s2 σ H2 x y v u _ I2 r1 r2 q2) λc s3 ⟨z,H3,I3,r3,k,e,q3⟩=>?_) hm
 subst e
 cases r3
 exact wpAny_truthy_bool ⟨H3,I3,q3⟩
noncomputable def TruV (K:PySem.W.Frag) (x:V) (H:Hp) (k:Bool):Prop :=
 match x with
 |.non=>k=false
 |.bl b=>k=b
 |.int i=>k=(i != 0)
 |.str y=>y.length<=sizeLine/\k=((y.length:Int) != 0)
 |.byt y=>y.size<=sizeLine/\k=((y.size:Int) != 0)
 |.ref p=>(∃xs,SqL K H p xs/\k=!xs.isEmpty)\/(∃xs,SqT K H p xs/\k=!xs.isEmpty)\/∃kvs,H p=some (.dK kvs)/\k=!kvs.isEmpty
 |_=>False
theorem Zij {κ:Type}{kvs:List (κ×V)}{vs:List (κ×Value)} (r:KV kvs vs):(!vs.isEmpty)=!kvs.isEmpty:=by
 cases r<;>rfl
theorem Zfp {xs:List V}{its:List Value} (r:Vals xs its):(!its.toArray.isEmpty)=!xs.isEmpty:=by
 cases r<;>simp
theorem Zfq:(sizeLine:Nat)<2 ^ 63:=by rw[sizeLine_eq];decide
theorem tru_ok:TruR X (λx H Q=>∃k,TruV X.K x H k/\Q k H):=by
 intro pins s σ H x v Q I rx h
 obtain⟨k,e,q⟩:=h
 have hl:=Zfq
 have hs:sizeLine=16777216:=sizeLine_eq
 cases x with
 |non =>
  cases rx
  have e':k=false:=e
  subst e'
  exact truthy_none ⟨H,I,q⟩
 |bl b =>
  cases rx
  have e':k=b:=e
  subst e'
  exact wpAny_truthy_bool ⟨H,I,q⟩
 |int i =>
  obtain⟨t,rfl⟩:=rx
  have e':k=(i != 0):=e
  subst e'
  exact PySem.P.truthy_int ⟨H,I,q⟩
 |str y =>
  obtain⟨t,rfl⟩:=rx
  obtain⟨hy,e'⟩:y.length<=sizeLine/\k=((y.length:Int) != 0):=e
  subst e'
  exact PySem.P.truthy_str (by omega) ⟨H,I.tok _,q⟩
 |byt y =>
  obtain⟨t,rfl⟩:=rx
  obtain⟨hy,e'⟩:y.size<=sizeLine/\k=((y.size:Int) != 0):=e
  subst e'
  exact PySem.W.truthy_bytes (by omega) ⟨H,I.tok _,q⟩
 |ref p =>
  cases rx
  have e':(∃xs,SqL X.K H p xs/\k=!xs.isEmpty)\/(∃xs,SqT X.K H p xs/\k=!xs.isEmpty)\/∃kvs,H p=some (.dK kvs)/\k=!kvs.isEmpty:=e
  rcases e' with⟨xs,hx,e'⟩|⟨xs,hx,e'⟩|⟨kvs,hx,e'⟩
  ·subst e'
   obtain⟨its,r,pl,hz⟩:=I.list hx
   have hlen:=r.length
   exact wpAny_truthy_list pl.isList (by simp only[Yj];omega) ⟨H,I.tok _,by rw[Zfp r];exact q⟩
  ·subst e'
   obtain⟨its,r,pl,hz⟩:=I.tuple hx
   have hlen:=r.length
   exact truthy_tuple pl (by simp only[Yj];omega) ⟨H,I.tok _,by rw[Zfp r];exact q⟩
  ·subst e'
   obtain⟨hz,hS,vs,r,m⟩:kvs.length<=sizeLine/\(p==sysModules)=false/\∃vs,KV kvs vs/\s.heap.DictOf (Zae X.prog X.w) p vs:=I.hok p _ hx
   have hlen:kvs.length=vs.length:=Paired.length r
   exact wpAny_truthy_dict hS m (by omega) ⟨H,I.tok _,by rw[Zij r];exact q⟩
 |_=>exact(show False from e).elim
theorem vals1 {x:V}{us:List Value} (r:Vals [x] us):∃u,us=[u]/\RelV x u:=by
 cases r with
 |cons r1 r2=>cases r2;exact⟨_,rfl,r1⟩
theorem vals2 {x y:V}{us:List Value} (r:Vals [x,y] us):∃u w',us=[u,w']/\RelV x u/\RelV y w':=by
 cases r with
 |cons r1 r2 =>
  cases r2 with
  |cons r3 r4=>cases r4;exact⟨_,_,rfl,r1,r3⟩
theorem Zjr (hc:X.calm=true):Zbb X (.builtin "max") (λxs H Q=>∃i j,xs=[.int i,.int j]/\Q (.int (if j>i then j else i)) H):=by
 intro pins s σ H xs us Q I r h
 obtain⟨i,j,rfl,q⟩:=h
 obtain⟨u,w',rfl,⟨t,rfl⟩,⟨t',rfl⟩⟩:=vals2 r
 refine max_two_ints (I.ok.hd hc) λh' tk k=>⟨_,H,I.kept k,?_,q⟩
 by_cases hj:j>i
 ·rw[Yc hj,Yc hj];exact⟨_,rfl⟩
 ·rw[Ya hj,Ya hj];exact⟨_,rfl⟩
theorem Zjs (hc:X.calm=true):Zbb X (.builtin "min") (λxs H Q=>∃i j,xs=[.int i,.int j]/\Q (.int (if j<i then j else i)) H):=by
 intro pins s σ H xs us Q I r h
 obtain⟨i,j,rfl,q⟩:=h
 obtain⟨u,w',rfl,⟨t,rfl⟩,⟨t',rfl⟩⟩:=vals2 r
 refine min_two_ints (I.ok.hd hc) λh' tk k=>⟨_,H,I.kept k,?_,q⟩
 by_cases hj:j<i
 ·rw[Yc hj,Yc hj];exact⟨_,rfl⟩
 ·rw[Ya hj,Ya hj];exact⟨_,rfl⟩
theorem Zjt:Zbb X (.type "int") (λxs H Q=>(∃i,xs=[.int i]/\Q (.int i) H)\/∃k,xs=[.bl k]/\Q (.int (if k then 1 else 0)) H):=by
 intro pins s σ H xs us Q I r h
 rcases h with⟨i,rfl,q⟩|⟨k,rfl,q⟩
 ·obtain⟨u,rfl,t,rfl⟩:=vals1 r
  exact call_int_int ⟨.int i,H,I,⟨_,rfl⟩,q⟩
 ·obtain⟨u,rfl,r1⟩:=vals1 r
  cases r1
  exact call_int_bool ⟨.int (if k then 1 else 0),H,I.tok _,⟨_,rfl⟩,q⟩
end
structure ObjM (h:Heap) (x dx C:Addr) (mA:Str->Option Value):Prop where
 obj:h.get? x=some (PySem.W.instObj C dx)
 ns:h.Ns1 dx mA
 ne:dx≠x
theorem Zju {h:Heap}{dx:Addr}{mA:Str->Option Value} (n:h.Ns1 dx mA):∃od,h.get? dx=some od/\∀name,PySem.W.lookIn name od=some (mA name):=by
 obtain⟨o,es,ep,ho,hd,hk,_,hm⟩:=n
 refine⟨o,ho,λname=>?_⟩
 have e:=hm name
 unfold nsFind findBy at e
 rw[<-Array.find?_toList]at e
 unfold PySem.W.lookIn
 rw[hd]
 dsimp only
 split
 ·rename_i y q
  rw[q]at e
  exact congrArg some e
 ·rename_i q
  rw[q]at e
  have a:es.toList.any (·.refKey)=false:=by
   rw[List.any_eq_false]
   intro y hy
   obtain⟨z,t,hkey⟩:=hk y (Array.mem_toList_iff.mp hy)
   simp[DictEntry.refKey,hkey]
  have a':¬ es.toList.any (·.refKey)=true:=by rw[a];exact Ys
  rw[Ya a']
  exact congrArg some e
theorem ObjM.look {h:Heap}{x dx C:Addr}{mA:Str->Option Value} (I:ObjM h x dx C mA):∃od,PySem.W.InstAt h x (PySem.W.instObj C dx) C (some od)/\∀name,PySem.W.lookIn name od=some (mA name) :=
 let ⟨od,ho,hl⟩:=Zju I.ns
 ⟨od,⟨I.obj,rfl,rfl,ho⟩,hl⟩
section
variable {prog:Program}{w:World}{A:Around}{E:Value->Shared->Prop}{s:Shared}{K:PySem.W.Frag}{x dx C f:Addr}{mA:Str->Option Value}{name:Str}{v:Value}
theorem get_map {expr:Bool}{Q:Value->Shared->Prop} (X:K.In s.heap) (I:ObjM s.heap x dx C mA) (hg:PySem.W.plainGet K C name=true) (hh:PySem.W.hasDictIn K C=true)
  (ha:PySem.W.findIn K (.ref C) name=some none) (hv:mA name=some v) (hv':PySem.W.handedIn v=true) (h:Q v {s with toks:=s.toks+1}) :
  wpAny (model prog w) A (getAttr (.ref x) name expr) Q E s:=by
 obtain⟨od,J,hl⟩:=I.look
 exact PySem.W.get_value X J (PySem.W.plainGet_of hg).1 (PySem.W.findObj_own hh ha rfl (by rw[hl,hv])) hv' h
theorem Zkt {pl:Sem Bool}{Q:Value×List Value->Shared->Prop} (X:K.In s.heap) (I:ObjM s.heap x dx C mA) (hg:PySem.W.plainGet K C name=true)
  (hf:PySem.W.findIn K (.ref C) name=some (some (.ref f))) (ht:PySem.W.isFn K (.ref f)=true) (hv:mA name=none) (h:Q (.ref f,[.ref x]) s) :
  wpAny (model prog w) A (getMethod (.ref x) name pl) Q E s:=by
 obtain⟨od,J,hl⟩:=I.look
 exact PySem.W.method_fn X J (PySem.W.plainGet_of hg).1 (PySem.W.plainGet_of hg).2 hf (beq_iff_eq.mp ht) (by show(PySem.W.lookIn name od).map (·.isSome)=some false;rw[hl,hv];rfl) h
theorem Zmm {ns:List Str}{Q:Unit->Shared->Prop} (X:K.In s.heap) (I:ObjM s.heap x dx C mA)
  (hs:PySem.W.findIn K (.ref C) "__setattr__"=some (some (.builtin "object.__setattr__"))) (hp:PySem.W.plainOver K C=true) (ht:PySem.W.takerIn K C name=some none) (hh:PySem.W.hasDictIn K C=true)
  (hw:PySem.Within mA ns) (hsz:ns.length<=sizeLine)
  (h:∀h',ObjM h' x dx C (λy=>if y=name then some v else mA y)->Heap.SameBut dx s.heap h'->Q () {s with heap:=h',toks:=s.toks+2}) :
  wpAny (model prog w) A (setAttr (.ref x) name v) Q E s:=by
 obtain⟨od,J,hl⟩:=I.look
 refine PySem.W.set_plain X J hs (PySem.W.osa_open (s:={s with toks:=s.toks+1}) (r:=none) X J hp ht λb=>?_)
 obtain⟨cd,hc,hd'⟩:=PySem.W.any_some hh
 have hx:s.heap.get? x=some ⟨.ref C,some dx,.plain,#[]⟩:=I.obj
 refine Yb (Yg (Yb (Yb (wpAny_loadPart hx (Yb (PySem.W.Looks.here (s:={s with toks:=s.toks+1}) (PySem.W.looks_clsIn X hc) ?_))))))
 rw[hd']
 refine Yg (a:=some dx) (Yb (Yg (Yb ?_)))
 refine wpAny_nsSet1 (s:={s with toks:=s.toks+1}) I.ns λh' hn2 hs2=>?_
 obtain⟨oD,esD,epD,hoD,hdD,hcD⟩:=hn2.count (PySem.Within.cons name v hw)
 refine Yb (wpAny_lookBehind hoD (by rw[hdD];exact pastItsLine_dict (Yh hcD (by rw[Yn];omega))) ?_)
 exact Yg (h _ ⟨(hs2.2 _ (Ne.symm I.ne)).trans I.obj,hn2,I.ne⟩ hs2)
theorem Zku {R:Result->Shared->Prop}{vs:List Value}{kw:List (Str×Value)} (X:K.In s.heap) (hm:PySem.W.makesIn K C=true)
  (hi:PySem.W.findIn K (.ref C) "__init__"=some (some (.ref f))) (hf:PySem.W.typeIn K (.ref f)=some (.type "function"))
  (h:codeAny (model prog w) (A.under (.builtin "type.__call__" ⟨.ref C::vs,kw⟩)) (.call (.ref f) ⟨.ref (s.heap.objs.size+1)::vs,kw⟩) (PySem.W.InitBack (s.heap.objs.size+1) R)
   {s with heap:=(s.heap.push PySem.W.emptyDict).push (PySem.W.instObj C s.heap.objs.size)}) :
  codeAny (model prog w) A (.call (.ref C) ⟨vs,kw⟩) R s:=by
 obtain⟨hh,g,d,t,os⟩:=s
 exact PySem.W.make_core (PySem.W.makes_of X hm) (PySem.W.looks_findIn X hi) (λself=>PySem.W.bind_fn X self hf) (.inl rfl) h
end
noncomputable def Zbc (f:Str) (v:V):List (Str×V)->List (Str×V)
 |[]=>[(f,v)]
 |(g,x)::r=>if g=f then (g,v)::r else (g,x)::Zbc f v r
theorem Zbd (f g:Str) (v:V):∀fs:List (Str×V),(Zbc f v fs).lookup g=if g=f then some v else fs.lookup g
 |[]=>by
  show List.lookup g [(f,v)]=_
  by_cases h:g=f
  ·have hb:(g==f)=true:=beq_iff_eq.mpr h
   simp only[List.lookup,hb,Yc h]
  ·have hb:(g==f)=false:=beq_eq_false_iff_ne.mpr h
   simp only[List.lookup,hb,Ya h]
 |(k,x)::r=>by
  have ih:=Zbd f g v r
  rw[show Zbc f v ((k,x)::r)=(if k=f then (k,v)::r else (k,x)::Zbc f v r)from rfl]
  by_cases hk:k=f
  ·rw[Yc hk]
   by_cases h:g=k
   ·have hb:(g==k)=true:=beq_iff_eq.mpr h
    simp only[List.lookup,hb,Yc (h.trans hk)]
   ·have hb:(g==k)=false:=beq_eq_false_iff_ne.mpr h
    simp only[List.lookup,hb,Ya (λe:g=f=>h (e.trans hk.symm))]
  ·rw[Ya hk]
   by_cases h:g=k
   ·have hb:(g==k)=true:=beq_iff_eq.mpr h
    simp only[List.lookup,hb,Ya (λe:g=f=>hk (h.symm.trans e))]
   ·have hb:(g==k)=false:=beq_eq_false_iff_ne.mpr h
    simp only[List.lookup,hb]
    exact ih
theorem Zeq (f:Str) (v:V):∀fs:List (Str×V),f∈(Zbc f v fs).map (·.1)/\∀g,g∈fs.map (·.1)->g∈(Zbc f v fs).map (·.1)
 |[]=>⟨by simp[Zbc],λg h=>by simp at h⟩
 |(k,x)::r=>by
  obtain⟨i1,i2⟩:=Zeq f v r
  rw[show Zbc f v ((k,x)::r)=(if k=f then (k,v)::r else (k,x)::Zbc f v r)from rfl]
  by_cases hk:k=f
  ·rw[Yc hk]
   subst hk
   exact⟨by simp,λg h=>by simpa using h⟩
  ·rw[Ya hk]
   refine⟨?_,λg h=>?_⟩
   ·rw[YB]
    exact YN _ i1
   ·rw[YB]at h⊢
    rcases Yl.mp h with e|e
    ·exact Yl.mpr (.inl e)
    ·exact YN _ (i2 g e)
theorem Zbe (f:Str) (v:V):∀fs:List (Str×V),(Zbc f v fs).length<=fs.length+1
 |[]=>by simp[Zbc]
 |(k,x)::r=>by
  have ih:=Zbe f v r
  rw[show Zbc f v ((k,x)::r)=(if k=f then (k,v)::r else (k,x)::Zbc f v r)from rfl]
  by_cases hk:k=f
  ·rw[Yc hk,Yn,Yn];omega
  ·rw[Ya hk,Yn,Yn];omega
theorem Zds.some_of {v:V}{o:Option Value} (r:Zds (some v) o):∃u,o=some u/\RelV v u:=by
 cases o with
 |none=>exact(show False from r).elim
 |some u=>exact⟨u,rfl,r⟩
theorem Zds.none_of {o:Option Value} (r:Zds none o):o=none:=by
 cases o with
 |none=>rfl
 |some u=>exact(show False from r).elim
theorem Zjv {v:V}{u:Value} (r:RelV v u):PySem.W.handedIn u=true:=by
 cases v with
 |non=>cases(show u=Value.none from r);rfl
 |bl b=>cases(show u=Value.bool b from r);rfl
 |int i=>obtain⟨t,e⟩:=(show ∃t,u=Value.int i t from r);cases e;rfl
 |str x=>obtain⟨t,e⟩:=(show ∃t,u=Value.str x t from r);cases e;rfl
 |byt b=>obtain⟨t,e⟩:=(show ∃t,u=Value.bytes b t from r);cases e;rfl
 |flt b=>obtain⟨t,e⟩:=(show ∃t,u=Value.float b t from r);cases e;rfl
 |ref a=>cases(show u=Value.ref a from r);rfl
 |ty n=>cases(show u=Value.type n from r);rfl
section
variable {P:Program}{w:World}{H H':Hp}{h h':Heap}{a C dx:Addr}{fs fs':List (Str×V)}
theorem Zfi (hok:HOk P w H h) (e:H a=some (.ins C dx fs)):∃mA,ObjM h a dx C mA/\(∀f,Zds (fs.lookup f) (mA f))/\PySem.Within mA (fs.map (·.1))/\fs.length<=1000/\H dx=some (.own a):=by
 obtain⟨d,z,ne,ob,mA,n,r,q⟩:=(show ZJ P w H h a (.ins C dx fs)from hok a _ e)
 exact⟨mA,⟨ob,n,ne⟩,r,q,z,d⟩
end
structure Cls (K:PySem.W.Frag) (C:Addr):Prop where
 pg:PySem.W.plainGet K C Str.empty=true
 hd:PySem.W.hasDictIn K C=true
 po:PySem.W.plainOver K C=true
 sa:PySem.W.findIn K (.ref C) "__setattr__"=some (some (.builtin "object.__setattr__"))
theorem Cls.get {K:PySem.W.Frag}{C:Addr} (c:Cls K C) (f:Str):PySem.W.plainGet K C f=true:=c.pg
noncomputable def NoAttr (K:PySem.W.Frag) (C:Addr) (f:Str):Prop:=PySem.W.findIn K (.ref C) f=some none
theorem NoAttr.taker {K:PySem.W.Frag}{C:Addr}{f:Str} (n:NoAttr K C f):PySem.W.takerIn K C f=some none:=by
 unfold PySem.W.takerIn
 rw[show PySem.W.findIn K (.ref C) f=some none from n]
 rfl
structure Meth (K:PySem.W.Frag) (C:Addr) (m:Str) (f:Addr):Prop where
 at_:PySem.W.findIn K (.ref C) m=some (some (.ref f))
 fn:PySem.W.isFn K (.ref f)=true
 kp:PySem.W.keepIn K (.ref f)=true
section
variable {X:Cx}{pins:List (Addr×Obj)}{σ:St}{H:Hp}{s:Shared}{a C dx:Addr}{fs:List (Str×V)}{f:Str}{v:V}{A:Around}{E:Value->Shared->Prop}
theorem Zik {b:Bool}{Q:Value->Shared->Prop} (I:Inv X pins σ H s) (e:H a=some (.ins C dx fs)) (c:Cls X.K C) (n:NoAttr X.K C f) (l:fs.lookup f=some v)
  (h:∀u s',Inv X pins σ H s'->RelV v u->Q u s'):wpAny (model X.prog X.w) A (getAttr (.ref a) f b) Q E s:=by
 obtain⟨mA,O,r,_,_,_⟩:=Zfi I.hok e
 obtain⟨u,hu,ru⟩:=Zds.some_of (v:=v) (o:=mA f) (by rw[<-l];exact r f)
 exact get_map I.kIn O (c.get f) c.hd n hu (Zjv ru) (h u _ (I.tok _) ru)
theorem Zil {m:Str}{g:Addr}{pl:Sem Bool}{Q:Value×List Value->Shared->Prop} (I:Inv X pins σ H s) (e:H a=some (.ins C dx fs)) (c:Cls X.K C) (k:Meth X.K C m g) (l:fs.lookup m=none)
  (h:Q (.ref g,[.ref a]) s):wpAny (model X.prog X.w) A (getMethod (.ref a) m pl) Q E s:=by
 obtain⟨mA,O,r,_,_,_⟩:=Zfi I.hok e
 have hn:mA m=none:=Zds.none_of (by rw[<-l];exact r m)
 exact Zkt I.kIn O (c.get m) k.at_ k.fn hn h
theorem Zim {y:V}{u:Value}{Q:Unit->Shared->Prop} (I:Inv X pins σ H s) (e:H a=some (.ins C dx fs)) (c:Cls X.K C) (n:NoAttr X.K C f) (hl:fs.length<1000) (ry:RelV y u)
  (h:∀s',Inv X pins σ (upd H a (.ins C dx (Zbc f y fs))) s'->Q () s'):wpAny (model X.prog X.w) A (setAttr (.ref a) f u) Q E s:=by
 obtain⟨mA,O,r,wi,_,ho⟩:=Zfi I.hok e
 have hz:(fs.map (·.1)).length<=sizeLine:=by rw[Yf,sizeLine_eq];omega
 refine Zmm I.kIn O c.sa c.po n.taker c.hd wi hz λh' O' sb=>h _ ?_
 have hd:∃o,h'.get? dx=some o:=let ⟨o,_,_,e',_⟩:=O'.ns;⟨o,e'⟩
 refine I.write (x:=a) (e:=dx) (by rw[e];exact True.intro) (.inr ho) (λb q hb z=>(sb.2 b hb).trans z) hd ?_
 refine⟨by rw[Zh O.ne];exact ho,?_,O.ne,O'.obj,_,O'.ns,λg=>?_,λg hg=>?_⟩
 ·have:=Zbe f y fs;omega
 ·show Zds ((Zbc f y fs).lookup g) (if g=f then some u else mA g)
  rw[Zbd]
  by_cases q:g=f
  ·rw[Yc q,Yc q];exact ry
  ·rw[Ya q,Ya q];exact r g
 ·by_cases q:g=f
  ·rw[q];exact(Zeq f y fs).1
  ·refine(Zeq f y fs).2 g (wi g λz=>hg ?_)
   show(if g=f then some u else mA g)=none
   rw[Ya q];exact z
theorem Inv.made (I:Inv X pins σ H s):Inv X pins σ (upd (upd H s.heap.objs.size (.own (s.heap.objs.size+1))) (s.heap.objs.size+1) (.ins C s.heap.objs.size []))
  {s with heap:=(s.heap.push PySem.W.emptyDict).push (PySem.W.instObj C s.heap.objs.size)}:=by
 have e1:(s.heap.push PySem.W.emptyDict).get? s.heap.objs.size=some PySem.W.emptyDict:=Yz s.heap rfl
 have e2:((s.heap.push PySem.W.emptyDict).push (PySem.W.instObj C s.heap.objs.size)).get? (s.heap.objs.size+1)=some (PySem.W.instObj C s.heap.objs.size):=by
  have:=Yz (s.heap.push PySem.W.emptyDict) (o:=PySem.W.instObj C s.heap.objs.size) rfl
  rwa [Heap.size_push]at this
 have e3:(s.heap.push PySem.W.emptyDict).Ns s.heap.objs.size (λ_=>none):=⟨PySem.W.emptyDict,#[],_,e1,rfl,(λe he=>absurd he (by simp)),λ_=>rfl⟩
 have I1:=I.laid (a:=s.heap.objs.size) (o:=.own (s.heap.objs.size+1)) (h':=s.heap.push PySem.W.emptyDict) (t':=s.toks) (λb u q=>Ym _ q) (Yd _) ⟨_,e1⟩
 refine I1.laid (a:=s.heap.objs.size+1) (o:=.ins C s.heap.objs.size []) (t':=s.toks) (λb u q=>Ym _ q) (Nat.le_of_eq (Heap.size_push _ _)) ?_
 have ne:s.heap.objs.size≠s.heap.objs.size+1:=Yo (Nat.lt_succ_self _)
 refine⟨by rw[Zh ne,Zc],Yu _,ne,e2,λ_=>none,(Heap.Ns1.of_empty e3).at λo q=>Ym _ q,λ_=>True.intro,λy hy=>absurd rfl hy⟩
theorem Zmn {prog:Program}{w:World}{env:Env}{e:Expr}{f:Str}{pos:Pos}{s:Shared}{Q:Value->Shared->Prop} (hb:attributeBase e f env (eval e env)=eval e env)
  (h:wpAny (model prog w) A (eval e env) (λo s₁=>wpAny (model prog w) A (getAttr o f true) Q E s₁) E s):wpAny (model prog w) A (eval (.Attribute e f pos) env) Q E s :=
 Attribute_any_ h (by rw[arm_eval_Attribute,hb])
end
section
variable {X:Cx}{pins:List (Addr×Obj)}{σ:St}{H:Hp}{s:Shared}{A:Around}{E:Value->Shared->Prop}{Q:Value->Shared->Prop}{c:Value}{b:Bool}
inductive TyOf (K:PySem.W.Frag) (H:Hp):V->Value->Prop where
 |non:TyOf K H .non (.type "NoneType")
 |bl (x:Bool):TyOf K H (.bl x) (.type "bool")
 |int (i:Int):TyOf K H (.int i) (.type "int")
 |str (x:Str):TyOf K H (.str x) (.type "str")
 |flt (x:UInt64):TyOf K H (.flt x) (.type "float")
 |lst {a:Addr}{xs:List V} (e:H a=some (.lst xs)):TyOf K H (.ref a) (.type "list")
 |frz {a:Addr}{o:Obj}{xs:List V} (e:H a=some (.frz o (.lst xs))):TyOf K H (.ref a) (.type "list")
 |tup {a:Addr}{xs:List V} (e:H a=some (.tup xs)):TyOf K H (.ref a) (.type "tuple")
 |dK {a:Addr}{kvs:List (Key×V)} (e:H a=some (.dK kvs)):TyOf K H (.ref a) (.type "dict")
 |dT {a:Addr}{kvs:List (List Key×V)} (e:H a=some (.dT kvs)):TyOf K H (.ref a) (.type "dict")
 |ins {a C dx:Addr}{fs:List (Str×V)} (e:H a=some (.ins C dx fs)) (cl:Cls K C) (ha:PySem.W.findIn K (.ref C) "__class__"=some (some (.builtin "object.__class__")))
   (hn:PySem.W.specialIn K (.builtin "object.__class__") "__get__"=some (some (.builtin "getset_descriptor.__get__"))) (htk:PySem.W.takesIn K (.builtin "object.__class__")=some true)
   (hm:PySem.W.mroIn K C (.type "object")=some true):TyOf K H (.ref a) (.ref C)
theorem Zjw {x:V}{u t:Value} (I:Inv X pins σ H s) (rx:RelV x u) (ty:TyOf X.K H x t) (e:PySem.W.kitOne X.K t c=some b) (h:∀tk,Q (.bool b) {s with toks:=tk}) :
  wpAny (model X.prog X.w) A (call (.builtin "isinstance") [u,c]) Q E s:=by
 cases ty with
 |non=>cases(show u=Value.none from rx);exact PySem.W.kia_one PySem.W.kitx_none I.kIn True.intro e (λz=>nomatch z) h
 |bl y=>cases(show u=Value.bool y from rx);exact PySem.W.kia_one PySem.W.kitx_bool I.kIn True.intro e (λz=>nomatch z) h
 |int i=>obtain⟨t,q⟩:=(show ∃t,u=Value.int i t from rx);cases q;exact PySem.W.kia_one PySem.W.kitx_int I.kIn True.intro e (λz=>nomatch z) h
 |str y=>obtain⟨t,q⟩:=(show ∃t,u=Value.str y t from rx);cases q;exact PySem.W.kia_one PySem.W.kitx_str I.kIn True.intro e (λz=>nomatch z) h
 |flt y=>obtain⟨t,q⟩:=(show ∃t,u=Value.float y t from rx);cases q;exact PySem.W.kia_one PySem.W.kitx_float I.kIn True.intro e (λz=>nomatch z) h
 |@lst a xs ea =>
  cases(show u=Value.ref a from rx)
  obtain⟨_,_,n,_,h1⟩:=(show ZJ X.prog X.w H s.heap a (.lst xs)from I.hok a _ ea)
  exact PySem.W.kia_one PySem.W.kitx_list I.kIn ⟨_,h1,rfl⟩ e (λz=>nomatch z) h
 |@frz a ob xs ea =>
  cases(show u=Value.ref a from rx)
  obtain⟨_,_,_,n,_,h1⟩:=(show ZJ X.prog X.w H s.heap a (.frz ob (.lst xs))from I.hok a _ ea)
  exact PySem.W.kia_one PySem.W.kitx_list I.kIn ⟨_,h1,rfl⟩ e (λz=>nomatch z) h
 |@tup a xs ea =>
  cases(show u=Value.ref a from rx)
  obtain⟨_,_,_,p⟩:=(show ZJ X.prog X.w H s.heap a (.tup xs)from I.hok a _ ea)
  obtain⟨o,h1,h2,_⟩:=p
  exact PySem.W.kia_one PySem.W.kitx_tuple I.kIn ⟨o,h1,h2⟩ e (λz=>nomatch z) h
 |@dK a kvs ea =>
  cases(show u=Value.ref a from rx)
  obtain⟨_,_,vs,_,p⟩:=(show ZJ X.prog X.w H s.heap a (.dK kvs)from I.hok a _ ea)
  obtain⟨o,es,ep,h1,h2,_⟩:=p
  exact PySem.W.kia_one PySem.W.kitx_dict I.kIn ⟨o,h1,h2.1⟩ e (λz=>nomatch z) h
 |@dT a kvs ea =>
  cases(show u=Value.ref a from rx)
  obtain⟨_,_,xs,_,o,es,ep,h1,h2,_⟩:=(show ZJ X.prog X.w H s.heap a (.dT kvs)from I.hok a _ ea)
  exact PySem.W.kia_one PySem.W.kitx_dict I.kIn ⟨o,h1,h2.1⟩ e (λz=>nomatch z) h
 |@ins a C dx fs ea cl ha hn htk hm =>
  cases(show u=Value.ref a from rx)
  obtain⟨mA,O,_⟩:=Zfi I.hok ea
  obtain⟨od,J,_⟩:=O.look
  exact PySem.W.kia_one (PySem.W.kitx_own (cl.get _) cl.hd ha hn htk hm) I.kIn J e (λz=>nomatch z) h
end
structure Room (k:Nat) (A:Around):Prop where
 hd:A.handled=none
 dp:A.depth+3*k+5<recursionLimit
 un:A.units+16*k+200<cLine
theorem Room.mono {j k:Nat}{A:Around} (r:Room k A) (h:j<=k):Room j A:=⟨r.hd,by have:=r.dp;omega,by have:=r.un;omega⟩
theorem Room.deeper {k:Nat}{A:Around} (r:Room (k+1) A) (env:Env):Room k (A.deeper env) :=
 ⟨r.hd,by have:=r.dp;show A.depth+1+3*k+5 < _;omega,by have:=r.un;show A.units+3+16*k+200 < _;omega⟩
theorem Zin {A:Around}{C:Addr}{us:List Value}{kw:List (Str×Value)}:(A.under (.builtin "type.__call__" ⟨.ref C::us,kw⟩)).depth=A.depth+1:=by
 first|rfl|simp[Around.under,Code.weight,Code.isCreation,Code.isGuard,Code.isCaller,Code.frames,Code.isFrame,guardIds]
theorem Zio {A:Around}{C:Addr}{us:List Value}{kw:List (Str×Value)}:(A.under (.builtin "type.__call__" ⟨.ref C::us,kw⟩)).units=A.units+1:=by
 first|rfl|simp[Around.under,Code.cUnits,Code.frames,Code.isFrame]
theorem Room.make {k:Nat}{A:Around} (r:Room (k+1) A) (C:Addr) (us:List Value) (kw:List (Str×Value)):Room k (A.under (.builtin "type.__call__" ⟨.ref C::us,kw⟩)) :=
 ⟨r.hd,by have:=r.dp;rw[Zin];omega,by have:=r.un;rw[Zio];omega⟩
theorem Room.depth {k:Nat}{A:Around} (r:Room k A):A.depth<recursionLimit:=by have:=r.dp;omega
theorem Room.units {k:Nat}{A:Around} (r:Room k A):A.units+64<cLine:=by have:=r.un;omega
noncomputable def tNil:TA:=λ_ H Q=>Q [] H
noncomputable def tCons (ta:TE) (tr:TA):TA:=fun σ H Q=>ta σ H λx H1=>tr σ H1 λxs H2=>Q (x::xs) H2
section
variable {X:Cx}{e:Expr}{es:List Expr}{te:TE}{t:TA}{pos:Pos}
theorem Zb:PA X [] tNil:=λ_ _ _ _ H Q I h=>Calls.spliced_nil ⟨[],H,I,.nil,h⟩
theorem Za (ha:PE X e te) (hr:PA X es t) (hs:starEach (e::es) X.env=(false,eval e X.env)::starEach es X.env:=by rfl):PA X (e::es) (tCons te t):=by
 intro pos pins s σ H Q I h
 rw[hs]
 show wpAny _ _ (spliced ((false,eval e X.env)::backTo pos (starEach es X.env))) _ _ s
 refine Calls.spliced_cons (thn (ha pins s σ H _ I h) λu s1 ⟨x,H1,I1,r1,q1⟩=>?_)
 exact thn (hr pos pins s1 σ H1 _ I1 q1) λus s2 ⟨xs,H2,I2,r2,q2⟩=>⟨x::xs,H2,I2,.cons r1 r2,q2⟩
noncomputable def tTup (t:TA):TE:=fun σ H Q=>t σ H λxs H1=>xs.length<=sizeLine/\∀p,H1 p=none->Q (.ref p) (upd H1 p (.tup xs))
noncomputable def tLst (t:TA):TE:=fun σ H Q=>t σ H λxs H1=>xs.length<=sizeLine/\∀p,H1 p=none->Q (.ref p) (upd H1 p (.lst xs))
theorem Zbz {x1} (h:PA X es t):PE X (.Tuple es x1 pos) (tTup t):=by
 intro pins s σ H Q I hq
 refine wpAny_Tuple_spliced (thn (h pos pins s σ H _ I hq) λus s1 ⟨xs,H1,I1,r,z,q⟩=>⟨by rw[<-r.length];exact z,?_⟩)
 have hf:H1 s1.heap.objs.size=none:=I1.hok.fresh (Yd _)
 refine⟨.ref s1.heap.objs.size,upd H1 s1.heap.objs.size (.tup xs),I1.laid (t':=s1.toks) (λb u e=>Ym _ e) (Yd _) ?_,rfl,q _ hf⟩
 exact⟨z,us,r,⟨_,Yz _ rfl,rfl,_,rfl⟩⟩
theorem ZaL (h:PA X es t):PE X (.List es pos) (tLst t):=by
 intro pins s σ H Q I hq
 refine wpAny_List_spliced (thn (h pos pins s σ H _ I hq) λus s1 ⟨xs,H1,I1,r,z,q⟩=>⟨by rw[<-r.length];exact z,?_⟩)
 have hf:H1 s1.heap.objs.size=none:=I1.hok.fresh (Yd _)
 refine⟨.ref s1.heap.objs.size,upd H1 s1.heap.objs.size (.lst xs),I1.laid (t':=s1.toks) (λb u e=>Ym _ e) (Yd _) ?_,rfl,q _ hf⟩
 exact⟨z,us,0,r,Yz _ rfl⟩
end
noncomputable abbrev Sp:=List V->Hp->VK->XK->Prop
noncomputable abbrev CXT:=List Env->Hp->Shared->XK->Value->Shared->Prop
structure Env0 (P:Program) (w:World) (K:PySem.W.Frag) (mg:Str->Option Value) (base:Heap) (A:Around) (outer:List Env) (s:Shared) (H:Hp):Prop where
 frames:A.frames=some outer
 mod:Mod K mg base
 bs:∀b o,base.get? b=some o->s.heap.get? b=some o/\H b=none
 bsz:base.objs.size<=s.heap.objs.size
 funs:s.heap.FunFrames base outer
 frf:∀b∈frs outer,H b=none
 hok:HOk P w H s.heap
 bare:AllBare s.gens
noncomputable def CE (outer:List Env) (P:Program) (w:World) (H:Hp) (s:Shared) (Q:VK) (u:Value) (s':Shared):Prop :=
 ∃v H',s'.os=s.os/\AllBare s'.gens/\Un (frs outer) [] H H' s.heap s'.heap/\HOk P w H' s'.heap/\RelV v u/\Q v H'
noncomputable def CR (CX:CXT) (outer:List Env) (P:Program) (w:World) (H:Hp) (s:Shared) (Q:VK) (E:XK) (r:Result) (s':Shared):Prop :=
 match r with
 |.ok (.ret u)=>CE outer P w H s Q u s'
 |.ok _=>False
 |.error e=>CX outer H s E e s'
structure FnOk (P:Program) (w:World) (K:PySem.W.Frag) (mg:Str->Option Value) (base:Heap) (CX:CXT) (k:Nat) (f:Addr) (fd:FuncData) (ps:List Str) (sp:Sp):Prop where
 len:∀vs H Q E,sp vs H Q E->vs.length=ps.length
 run:∀(A:Around) (outer:List Env) (s:Shared) (H:Hp) (args:Args) (us:List Value) (vs:List V) (Q:VK) (E:XK),Room k A->Env0 P w K mg base A outer s H->BindsTo s fd args (ps.zip us)->Vals vs us->sp vs H Q E ->
  codeAny (model P w) A (.call (.ref f) args) (CR CX outer P w H s Q E) s
theorem Env0.make {P:Program}{w:World}{K:PySem.W.Frag}{mg:Str->Option Value}{base:Heap}{A:Around}{outer:List Env}{s:Shared}{H:Hp} (e:Env0 P w K mg base A outer s H) (C:Addr) (us:List Value) (kw:List (Str×Value)) :
  Env0 P w K mg base (A.under (.builtin "type.__call__" ⟨.ref C::us,kw⟩)) outer s H:=⟨by first|exact e.frames|(simpa[Around.under,Code.envs,Code.isFrame,pushEnvs]using e.frames),e.mod,e.bs,e.bsz,e.funs,e.frf,e.hok,e.bare⟩
section
variable {X:Cx}{pins:List (Addr×Obj)}{σ:St}{H:Hp}{s s':Shared}
theorem Inv.env0 (I:Inv X pins σ H s):Env0 X.prog X.w X.K X.mg X.base X.A X.stack s H :=
 ⟨I.ok.frames,I.ok.mod,I.bs,Yh I.ok.bsz I.sz,I.stack,I.ZgO,I.hok,I.bare⟩
theorem Inv.after {Q:VK}{u:Value} (I:Inv X pins σ H s) (h:CE X.stack X.prog X.w H s Q u s'):EP X pins σ Q u s':=by
 obtain⟨v,H',os,bare,un,hok,r,q⟩:=h
 obtain⟨hh,g,d,t,os'⟩:=s'
 obtain rfl:os'=s.os:=os
 exact⟨v,H',I.call (h':=hh) (g':=g) (d':=d) (t':=t) (ch:=[]) un hok bare (λb z=>absurd z (by simp)),r,q⟩
end
noncomputable def tCall (sp:Sp) (dvs:List V) (E:XK) (t:TA):TE:=fun σ H Q=>t σ H λvs H1=>sp (vs++dvs) H1 Q E
noncomputable def tMeth (C:Addr) (m:Str) (sp:Sp) (dvs:List V) (E:XK) (ta:TE) (t:TA):TE:=fun σ H Q=>ta σ H λx H1=>∃a dx fs,x=.ref a/\H1 a=some (.ins C dx fs)/\fs.lookup m=none /\
 t σ H1 λvs H2=>sp (x::(vs++dvs)) H2 Q E
noncomputable def tMake (C:Addr) (sp:Sp) (dvs:List V) (E:XK) (t:TA):TE:=fun σ H Q=>t σ H λvs H1=>∀x dx,H1 x=none->H1 dx=none->dx≠x ->
 sp (.ref x::(vs++dvs)) (upd (upd H1 dx (.own x)) x (.ins C dx [])) (λv H2=>v=.non/\Q (.ref x) H2) E
noncomputable def Binds (K:PySem.W.Frag) (fd:FuncData) (ps:List Str) (ds:List Value):Prop :=
 ∀(s:Shared) (us:List Value),K.In s.heap->(us++ds).length=ps.length->BindsTo s fd ⟨us,[]⟩ (ps.zip (us++ds))
theorem Binds.all {K:PySem.W.Frag}{fd:FuncData}{ps:List Str} (h:∀us:List Value,us.length=ps.length->bindArgs fd ⟨us,[]⟩=pure (ps.zip us)):Binds K fd ps []:=λs us _ hl=>by
 rw[List.append_nil]at hl⊢
 exact .of_eq (h us hl)
noncomputable def Passes (CX:CXT) (X:Cx) (E:XK):Prop:=∀(pins:List (Addr×Obj)) (σ:St) (H:Hp) (s:Shared) (e:Value) (s':Shared),Inv X pins σ H s->CX X.stack H s E e s'->X.xe e s'
section
variable {X:Cx}{CX:CXT}{k:Nat}{f C:Addr}{fd:FuncData}{ps:List Str}{sp:Sp}{dvs:List V}{ds:List Value}{E:XK}{x m:Str}{p pos apos:Pos}{e o:Expr}{es:List Expr}{ta:TE}{t:TA}
theorem Zkv {pins:List (Addr×Obj)}{σ:St}{H:Hp}{s:Shared}{Q:VK}{us:List Value}{vs:List V} (F:FnOk X.prog X.w X.K X.mg X.base CX k f fd ps sp) (hr:Room k X.A) (hb:Binds X.K fd ps ds) (hd:Vals dvs ds) (hx:Passes CX X E)
  (I:Inv X pins σ H s) (r:Vals vs us) (h:sp (vs++dvs) H Q E):wpAny (model X.prog X.w) X.A (call (.ref f) us) (EP X pins σ Q) X.xe s:=by
 have r2:Vals (vs++dvs) (us++ds):=r.append hd
 have hl:(us++ds).length=ps.length:=by rw[<-r2.length];exact F.len _ _ _ _ h
 refine wpAny_call (codeAny_mono (F.run X.A X.stack s H ⟨us,[]⟩ (us++ds) (vs++dvs) Q E hr I.env0 (hb s us I.kIn hl) r2 h) λr s' hq=>?_)
 cases r with
 |error e=>exact hx pins σ H s e s' I hq
 |ok fl =>
  cases fl with
  |ret u=>exact I.after hq
  |next=>exact False.elim hq
  |brk=>exact False.elim hq
  |cont=>exact False.elim hq
theorem ZiT (F:FnOk X.prog X.w X.K X.mg X.base CX k f fd ps sp) (hr:Room k X.A) (hg:Gl X x) (hm:X.mg x=some (.ref f)) (hk:PySem.W.keepIn X.K (.ref f)=true) (hb:Binds X.K fd ps ds) (hd:Vals dvs ds) (hx:Passes CX X E)
  (ha:PA X (e::es) t) (hdb:(x==("__debug__":Str))=false:=by decide) (he:starEach (e::es) X.env=(false,eval e X.env)::starEach es X.env:=by rfl) (hpl:(backTo pos (starEach es X.env)).any (·.1)=false:=by rfl) :
  PE X (.Call (.Name x p) (e::es) [] pos) (tCall sp dvs E t):=by
 intro pins s σ H Q I h
 refine wpAny_Call_Name_kw (Zff I hg hm ?_ hdb)
 refine PySem.W.callWith_K (h₀:=X.base) I.ok.mod.kin hk (thn (ha pos pins s σ H _ I h) λus s1 ⟨vs,H1,I1,r,q⟩=>⟨I1.kIn,?_⟩) he hpl
 exact Zkv F hr hb hd hx I1 r q
theorem Zmo {pl:Sem Bool} (he:PE X o ta) (c:Cls X.K C) (hm:Meth X.K C m f) (F:FnOk X.prog X.w X.K X.mg X.base CX k f fd ps sp) (hr:Room k X.A) (hb:Binds X.K fd ps ds) (hd:Vals dvs ds) (hx:Passes CX X E) (ha:PA X (e::es) t)
  (hst:starEach (e::es) X.env=(false,eval e X.env)::starEach es X.env:=by rfl) (hpl:(backTo pos (starEach es X.env)).any (·.1)=false:=by rfl)
  (ht:eval (.Call (.Attribute o m apos) (e::es) [] pos) X.env=(do
   let ov <-eval o X.env
   standAt apos.atName
   let (f,first) <-holding [ov] (getMethod ov m pl)
   callWith pos f first (backTo pos (starEach (e::es) X.env)) (backToKw pos (keywordEach [] X.env))):=by rfl) :
  PE X (.Call (.Attribute o m apos) (e::es) [] pos) (tMeth C m sp dvs E ta t):=by
 intro pins s σ H Q I h
 refine PySem.W.methodCall_KW (pl:=pl) (thn (he pins s σ H _ I h) λu s1 ⟨x,H1,I1,rx,a,dx,fs,ex,ea,l,q⟩=>?_) ht
 subst ex
 obtain rfl:u=Value.ref a:=rx
 refine Zil I1 ea c hm l ?_
 refine PySem.W.callWith_K (first:=[.ref a]) (h₀:=X.base) I.ok.mod.kin hm.kp (thn (ha pos pins s1 σ H1 _ I1 q) λus s2 ⟨vs,H2,I2,r,q2⟩=>⟨I2.kIn,?_⟩) hst hpl
 exact Zkv (us:=.ref a::us) (vs:=.ref a::vs) F hr hb hd hx I2 (.cons rfl r) q2
structure Mk (K:PySem.W.Frag) (C f:Addr):Prop where
 makes:PySem.W.makesIn K C=true
 init:PySem.W.findIn K (.ref C) "__init__"=some (some (.ref f))
 fn:PySem.W.isFn K (.ref f)=true
 kp:PySem.W.keepIn K (.ref C)=true
theorem Zkw {pins:List (Addr×Obj)}{σ:St}{H:Hp}{s:Shared}{Q:VK}{us:List Value}{vs:List V} (M:Mk X.K C f) (F:FnOk X.prog X.w X.K X.mg X.base CX k f fd ps sp) (hr:Room (k+1) X.A) (hb:Binds X.K fd ps ds) (hd:Vals dvs ds)
  (hx:Passes CX X E) (I:Inv X pins σ H s) (r:Vals vs us)
  (h:∀x dx,H x=none->H dx=none->dx≠x->sp (.ref x::(vs++dvs)) (upd (upd H dx (.own x)) x (.ins C dx [])) (λv H2=>v=.non/\Q (.ref x) H2) E) :
  wpAny (model X.prog X.w) X.A (call (.ref C) us) (EP X pins σ Q) X.xe s:=by
 have hq:=h (s.heap.objs.size+1) s.heap.objs.size (I.hok.fresh (Nat.le_succ _)) (I.hok.fresh (Yd _)) (Yo (Nat.lt_succ_self _))
 have I2:=Inv.made (C:=C) I
 have r2:Vals (V.ref (s.heap.objs.size+1)::(vs++dvs)) (Value.ref (s.heap.objs.size+1)::(us++ds)):=.cons rfl (r.append hd)
 have hl:(Value.ref (s.heap.objs.size+1)::us++ds).length=ps.length:=by
  have e:=r2.length
  rw[F.len _ _ _ _ hq]at e
  exact e.symm
 refine wpAny_call (Zku (f:=f) I.kIn M.makes M.init (beq_iff_eq.mp M.fn) (codeAny_mono (F.run _ X.stack _ _ ⟨Value.ref (s.heap.objs.size+1)::us,[]⟩ (Value.ref (s.heap.objs.size+1)::(us++ds)) _ _ E (hr.make C us [])
  (I2.env0.make C us []) (hb _ (Value.ref (s.heap.objs.size+1)::us) I2.kIn hl) r2 hq) λr s' hq'=>?_))
 cases r with
 |error e=>exact hx pins σ _ _ e s' I2 hq'
 |ok fl =>
  cases fl with
  |ret u =>
   obtain⟨v,H',I3,rv,ev,q3⟩:=I2.after hq'
   subst ev
   exact⟨rv,⟨V.ref (s.heap.objs.size+1),H',I3,rfl,q3⟩⟩
  |next=>exact False.elim hq'
  |brk=>exact False.elim hq'
  |cont=>exact False.elim hq'
theorem Zmp (M:Mk X.K C f) (F:FnOk X.prog X.w X.K X.mg X.base CX k f fd ps sp) (hr:Room (k+1) X.A) (hg:Gl X x) (hm:X.mg x=some (.ref C)) (hb:Binds X.K fd ps ds) (hd:Vals dvs ds) (hx:Passes CX X E)
  (ha:PA X (e::es) t) (hdb:(x==("__debug__":Str))=false:=by decide) (he:starEach (e::es) X.env=(false,eval e X.env)::starEach es X.env:=by rfl) (hpl:(backTo pos (starEach es X.env)).any (·.1)=false:=by rfl) :
  PE X (.Call (.Name x p) (e::es) [] pos) (tMake C sp dvs E t):=by
 intro pins s σ H Q I h
 refine wpAny_Call_Name_kw (Zff I hg hm ?_ hdb)
 refine PySem.W.callWith_K (h₀:=X.base) I.ok.mod.kin M.kp (thn (ha pos pins s σ H _ I h) λus s1 ⟨vs,H1,I1,r,q⟩=>⟨I1.kIn,?_⟩) he hpl
 exact Zkw M F hr hb hd hx I1 r q
end
structure FnScope (N P:List Str) (sc:Scope):Prop where
 kind:sc.kind=.function
 co:sc.isCoroutine=false
 gen:sc.isGenerator=false
 nd:N.Nodup
 pre:N.take P.length=P
 par:∀x∈P,sc.names.lookup x=some .local\/sc.names.lookup x=some .cell
 nofree:∀y∈sc.names,y.2≠.free
theorem Zgn {kindOf:Str->Option NameKind}{x:Str}:∀{binds:List (Str×Value)}{m:Str->Option Value},(∀v,(x,v)∉binds)->bindL kindOf binds m x=m x
 |[],_,_=>rfl
 |(n,v)::r,m,h=>by
  unfold bindL
  rw[Zgn λw hw=>h w (YN _ hw)]
  split
  ·have:x≠n:=by rintro rfl;exact h v YY
   simp[this]
  ·rfl
theorem Zgo {kindOf:Str->Option NameKind}{x:Str}:∀{binds:List (Str×Value)}{m:Str->Option Value},(∀v,(x,v)∉binds)->bindC kindOf binds m x=m x
 |[],_,_=>rfl
 |(n,v)::r,m,h=>by
  unfold bindC
  rw[Zgo λw hw=>h w (YN _ hw)]
  split
  ·rfl
  ·have:x≠n:=by rintro rfl;exact h v YY
   simp[this]
theorem Zgp {kindOf:Str->Option NameKind}{x:Str}{v:Value}:∀{P:List Str}{vs:List Value}{i:Nat}{m:Str->Option Value},P.Nodup->P[i]?=some x->vs[i]?=some v->kindOf x=some .local ->
  bindL kindOf (P.zip vs) m x=some v
 |[],_,_,_,_,h,_,_=>by simp at h
 |_::_,[],_,_,_,_,h,_=>by simp at h
 |p::P,w::vs,0,m,nd,h1,h2,hk=>by
  simp at h1 h2;subst h1;subst h2
  show bindL kindOf ((p,w)::P.zip vs) m p=_
  unfold bindL
  rw[Zgn λv hv=>(List.nodup_cons.mp nd).1 (List.of_mem_zip hv).1,Yc hk]
  simp
 |p::P,w::vs,i+1,m,nd,h1,h2,hk=>by
  show bindL kindOf ((p,w)::P.zip vs) m x=_
  unfold bindL
  exact Zgp (i:=i) (List.nodup_cons.mp nd).2 (by simpa using h1) (by simpa using h2) hk
theorem Zgq {kindOf:Str->Option NameKind}{x:Str}{v:Value}:∀{P:List Str}{vs:List Value}{i:Nat}{m:Str->Option Value},P.Nodup->P[i]?=some x->vs[i]?=some v->kindOf x≠some .local ->
  bindC kindOf (P.zip vs) m x=some v
 |[],_,_,_,_,h,_,_=>by simp at h
 |_::_,[],_,_,_,_,h,_=>by simp at h
 |p::P,w::vs,0,m,nd,h1,h2,hk=>by
  simp at h1 h2;subst h1;subst h2
  show bindC kindOf ((p,w)::P.zip vs) m p=_
  unfold bindC
  rw[Zgo λv hv=>(List.nodup_cons.mp nd).1 (List.of_mem_zip hv).1,Ya hk]
  simp
 |p::P,w::vs,i+1,m,nd,h1,h2,hk=>by
  show bindC kindOf ((p,w)::P.zip vs) m x=_
  unfold bindC
  exact Zgq (i:=i) (List.nodup_cons.mp nd).2 (by simpa using h1) (by simpa using h2) hk
noncomputable def start (N:List Str) (vs:List V):St:=vs.map some++List.replicate (N.length-vs.length) none
noncomputable def Zer (CX:CXT) (P:Program) (w:World) (K:PySem.W.Frag) (mg:Str->Option Value) (base:Heap) (N:List Str) (qual:Str) (scope:Scope) (f:Addr) (cd:Value) (A:Around) (outer:List Env) (s:Shared) (H:Hp) (E:XK):Cx where
 prog:=P
 w:=w
 K:=K
 mg:=mg
 base:=base
 A:=A.deeper (envOfC qual scope s.heap.objs.size f cd)
 N:=N
 s₀:=s
 H₀:=H
 env:=envOfC qual scope s.heap.objs.size f cd
 outer:=outer
 stack:=envOfC qual scope s.heap.objs.size f cd::outer
 ex:=[]
 calm:=true
 fn:=λ_=>true
 pn:=[]
 xe:=λe s'=>wpAny (model P w) (A.deeper (envOfC qual scope s.heap.objs.size f cd)) (leaving (envOfC qual scope s.heap.objs.size f cd) e) (λ_ s''=>CX outer H s E e s'') (λe' s''=>CX outer H s E e' s'') s'
theorem Zhu {sc:Scope}{n:Nat}{x:Str} (h:sc.names.lookup x=some .cell):∃c,(cellsFrom n sc.names []).lookup x=some c:=by
 have q:=PySem.W.cellsFrom_some sc.names n [] (.inl h)
 exact Option.isSome_iff_exists.mp q
theorem Zjx {CX:CXT}{P:Program}{w:World}{K:PySem.W.Frag}{mg:Str->Option Value}{base:Heap}{N ps:List Str}{qual:Str}{scope:Scope}{f:Addr}{cd:Value}{A:Around}{outer:List Env}{s s1:Shared}{H:Hp}{E:XK}{us:List Value}{vs:List V}
  (S:FnScope N ps scope) (hd:A.handled=none) (e0:Env0 P w K mg base A outer s H) (hl:vs.length=ps.length) (r:Vals vs us)
  (x:InCallC s s.heap.objs.size (bindL (envOfC qual scope s.heap.objs.size f cd).kindOf (ps.zip us) λ_=>none) (cellsFrom (s.heap.objs.size+1) scope.names []) (bindC (envOfC qual scope s.heap.objs.size f cd).kindOf (ps.zip us) λ_=>none) s1) :
  Inv (Zer CX P w K mg base N qual scope f cd A outer s H E) [] (start N vs) H s1:=by
 have hpl:ps.length<=N.length:=by have:=congrArg List.length S.pre;rw[YZ]at this;omega
 obtain⟨h1,tk,rfl,hk⟩:=x.done
 have noA:∀b:Addr,b∉(Zer CX P w K mg base N qual scope f cd A outer s H E).ex:=λb z=>absurd (show b∈([]:List Addr)from z) (by simp)
 refine⟨⟨e0.mod,S.kind,rfl,rfl,Yd _,λy z c h1 h2=>?_,λy hy=>?_,λy c _ h=>?_,λ_=>hd,Around.frames_deeper e0.frames,.inr ⟨rfl,rfl⟩,λb z=>absurd z (noA b),e0.bs,e0.bsz,λb _ _=>noA b,λb z=>absurd z (noA b),e0.funs,e0.frf⟩,
  rfl,e0.bare,Un.kept hk,⟨_,x.toInCall.ns,λi y v h1 h2 h3=>?_⟩,λy c h=>⟨_,x.cell y c h⟩,e0.hok.fresh (Yd _),λy c h=>?_,λp hp=>absurd (show p∈([]:List (Addr×Obj))from hp) (by simp),e0.hok.kept hk,?_⟩
 ·exact name_of_addr x.apart (PySem.mem_of_lookup h1) (PySem.mem_of_lookup h2)
 ·have hy:scope.names.lookup y=some .cell\/scope.names.lookup y=some .free:=hy
  rcases hy with hy|hy
  ·exact Zhu hy
  ·exact absurd rfl (S.nofree _ (PySem.mem_of_lookup hy))
 ·exact YQ (x.above y c (PySem.mem_of_lookup h))
 ·have hi:i<vs.length:=by
   unfold start at h2
   by_cases hi:i<vs.length
   ·exact hi
   ·rw[YW (by simpa using hi)]at h2
    rw[List.getElem?_replicate]at h2
    split at h2<;>cases h2
  have ha:vs[i]?=some v:=by
   unfold start at h2
   rw[YX (by simpa using hi),YK]at h2
   cases e:vs[i]? with
   |none=>rw[e]at h2;cases h2
   |some a=>rw[e]at h2;cases h2;rfl
  obtain⟨u,hu,rv⟩:=r.get ha
  have hp:ps[i]?=some y:=by
   rw[<-S.pre,List.getElem?_take_of_lt (by omega)];exact h1
  have ndP:ps.Nodup:=by rw[<-S.pre];exact S.nd.sublist (List.take_sublist _ _)
  refine⟨u,rv,?_⟩
  rcases S.par y (List.mem_of_getElem? hp)with k|k
  ·exact .inl ⟨k,Zgp ndP hp hu k⟩
  ·obtain⟨c,e⟩:=Zhu (n:=s.heap.objs.size+1) k
   refine .inr ⟨.inl k,c,e,?_⟩
   have q:=x.cell y c e
   rw[Zgq ndP hp hu (by show scope.names.lookup y≠_;rw[k];decide)]at q
   exact q
 ·exact e0.hok.fresh (YQ (x.above y c (PySem.mem_of_lookup h)))
 ·unfold start
  show _=N.length
  rw[Yy,Yf,List.length_replicate]
  omega
theorem fn_of {CX:CXT}{P:Program}{w:World}{K:PySem.W.Frag}{mg:Str->Option Value}{base:Heap}{k:Nat}{f:Addr}{name qual:Str}{params:Arguments}{body:List Stmt}{scope:Scope}{dV kV doc pm cdv ct oc:Value}{an od:Option Addr}
  {osl:Array (Option Value)}{N ps:List Str}{sp:Sp} (lk:K.lookup f=some ⟨oc,od,.func (PySem.W.fnOf name qual params body scope dV kV doc pm an cdv ct),osl⟩) (hcd:PySem.W.codeIn K cdv qual=true) (S:FnScope N ps scope)
  (len:∀vs H Q E,sp vs H Q E->vs.length=ps.length)
  (hbody:∀(A:Around) (outer:List Env) (s:Shared) (H:Hp) (vs:List V) (Q:VK) (E:XK),Room k (A.deeper (envOfC qual scope s.heap.objs.size f cdv))->sp vs H Q E ->
   ∃t,PSs (Zer CX P w K mg base N qual scope f cdv A outer s H E) body t/\t {nx:=λ_ H'=>Q .non H',rt:=Q} (start N vs) H) :
  FnOk P w K mg base CX (k+1) f (PySem.W.fnOf name qual params body scope dV kV doc pm an cdv ct) ps sp:=by
 refine⟨len,λA outer s H args us vs Q E hr e0 hb r hsp=>?_⟩
 have hl:=len _ _ _ _ hsp
 have KX:K.In s.heap:=e0.mod.kin.keeps λb o e=>(e0.bs b o e).1
 have lim:s.heap.NoLimit:=e0.mod.nolimit.keeps λb o e=>(e0.bs b o e).1
 have hkind:∀y∈ps.zip us,scope.names.lookup y.1=some .local\/(scope.names.lookup y.1=some .cell/\((cellsFrom (s.heap.objs.size+1) scope.names []).lookup y.1).isSome=true):=λ⟨n,v⟩ hy=>by
  rcases S.par n (List.of_mem_zip hy).1 with q|q
  ·exact .inl q
  ·exact .inr ⟨q,PySem.W.cellsFrom_some _ _ _ (.inl q)⟩
 refine codeAny_call_function hr.depth (KX _ _ lk) rfl S.co S.gen rfl (PySem.W.codeRec_of KX hcd) (hb _ _ _ _ ?_)
 refine wpAny_newFunctionEnv_cells S.kind hkind λenv he s1 x=>?_
 subst he
 refine⟨lim.keeps x.toInCall.keep,codeAny_func ?_⟩
 obtain⟨t,ht,hq⟩:=hbody A outer s H vs Q E (hr.deeper _) hsp
 have I:Inv (Zer CX P w K mg base N qual scope f cdv A outer s H E) [] (start N vs) H s1:=Zjx S hr.hd e0 hl r x
 refine YH (ht [] s1 (start N vs) H _ I hq) (λfl s' hs=>?_) λe s' hs=>hs
 have fin:∀{σ':St}{H':Hp}{v:V}{u:Value},Inv (Zer CX P w K mg base N qual scope f cdv A outer s H E) [] σ' H' s'->RelV v u->Q v H'->CE outer P w H s Q u s' :=
  λ{σ' H' v u} J rv q=>⟨v,H',J.os,J.bare,J.base,J.hok,rv,q⟩
 cases fl with
 |ret u =>
  obtain⟨v,σ',H',J,rv,q⟩:=hs
  exact fin J rv q
 |next =>
  obtain⟨σ',H',J,q⟩:=hs
  exact fin (v:=V.non) (u:=Value.none) J rfl q
 |brk =>
  obtain⟨_,_,_,q⟩:=hs
  exact False.elim q
 |cont =>
  obtain⟨_,_,_,q⟩:=hs
  exact False.elim q
section
variable {X:Cx}{x:Str}{p pos:Pos}{e:Expr}{es:List Expr}{t:TA}{id T:String}{r:List V->Hp->VK->Prop}
noncomputable def tCB (r:List V->Hp->VK->Prop) (t:TA):TE:=fun σ H Q=>t σ H λvs H1=>r vs H1 Q
theorem Zm (hc:Zbb X (.builtin id) r) (hg:Gl X x) (hm:X.mg x=none) (hv:bootBuiltins x=some (.builtin id)) (ha:PA X (e::es) t) (hn:x≠"__name__":=by decide) (hdb:(x==("__debug__":Str))=false:=by decide)
  (he:starEach (e::es) X.env=(false,eval e X.env)::starEach es X.env:=by rfl) (hpl:(backTo pos (starEach es X.env)).any (·.1)=false:=by rfl):PE X (.Call (.Name x p) (e::es) [] pos) (tCB r t):=by
 intro pins s σ H Q I h
 refine wpAny_Call_Name_kw (Zen I hg hm hv ?_ hn hdb)
 exact PyProof.Rows.callWith_builtin1 (thn (ha pos pins s σ H _ I h) λus s1 ⟨vs,H1,I1,r1,q1⟩=>hc pins s1 σ H1 vs us Q I1 r1 q1) he hpl
theorem Za0 (hc:Zbb X (.type T) r) (hg:Gl X x) (hm:X.mg x=none) (hv:bootBuiltins x=some (.type T)) (ha:PA X (e::es) t) (hn:x≠"__name__":=by decide) (hdb:(x==("__debug__":Str))=false:=by decide)
  (he:starEach (e::es) X.env=(false,eval e X.env)::starEach es X.env:=by rfl) (hpl:(backTo pos (starEach es X.env)).any (·.1)=false:=by rfl):PE X (.Call (.Name x p) (e::es) [] pos) (tCB r t):=by
 intro pins s σ H Q I h
 refine wpAny_Call_Name_kw (Zen I hg hm hv ?_ hn hdb)
 exact PyProof.Rows.callWith_type1 (thn (ha pos pins s σ H _ I h) λus s1 ⟨vs,H1,I1,r1,q1⟩=>hc pins s1 σ H1 vs us Q I1 r1 q1) he hpl
end
end L2
namespace HT
open PySem PyProof.Rows
section
open PySem.SeqAt
open PySem.AutoSeq1 (wpAny_loadPart')
open PySem.MeetsSeq PySem.MeetsSeq2 PySem.MeetsSeq3
end
section
variable {prog:Program}{w:World}{A:Around}{E:Value->Shared->Prop}{s:Shared}
theorem Zmq {t b:Addr}{vs ws:List Value}{Q:Value->Shared->Prop} (ht:IsTup s.heap t vs.toArray) (hb:IsTup s.heap b ws.toArray) (hv:vs≠[])
  (h1:ws=[]->Q (.ref t) s) (h2:ws≠[]->Q (.ref s.heap.objs.size) {s with heap:=s.heap.push {cls:=.type "tuple",data:=.seq (vs++ws).toArray}})
  (hsz:vs.length+ws.length<=sizeLine):wpAny (model prog w) A (binaryOp .Add (.ref t) (.ref b)) Q E s:=by
 obtain⟨⟨cls,dd,data,sl⟩,ho,hc,n,hd⟩:=id ht
 obtain⟨⟨cls2,dd2,data2,sl2⟩,ho2,hc2,n2,hd2⟩:=id hb
 simp only at hc hd hc2 hd2
 subst hc hd hc2 hd2
 have e:vs.toArray++ws.toArray=(vs++ws).toArray:=by simp
 by_cases hw:ws=[]
 ·exact concat_meets ⟨_,ho,rfl⟩ ⟨_,ho2,rfl⟩ noFill_tuple_add seq_tuple_add PySem.F.slot_tuple_add PySem.F.entry_tuple_add (PySem.F.args_tuple_add_2 _ _)
   (tuple_addW1 t b vs.toArray ws.toArray n n2 dd dd2 sl sl2 (by simpa using hv) (by simp[hw])) ⟨ho,ho2,h1 hw⟩
 ·refine concat_meets ⟨_,ho,rfl⟩ ⟨_,ho2,rfl⟩ noFill_tuple_add seq_tuple_add PySem.F.slot_tuple_add PySem.F.entry_tuple_add (PySem.F.args_tuple_add_2 _ _)
   (tuple_addW2 t b vs.toArray ws.toArray n n2 dd dd2 sl sl2 (by simpa using hv) (by simpa using hw) (by rw[Yj,Yj];exact hsz)) ⟨ho,ho2,?_⟩
  rw[e]
  exact h2 hw
noncomputable def sIx (n d:Nat):Option Int->Nat
 |none=>d
 |some v=>if v<0 then (v+(n:Int)).toNat else min v.toNat n
end
end HT
namespace L2
open PySem PySem.Spec PyProof.Rows
noncomputable abbrev TO:=St->Hp->(Option Int->Hp->Prop)->Prop
noncomputable def PO (X:Cx) (e:Option Expr) (t:TO):Prop :=
 ∀(pins:List (Addr×Obj)) (s:Shared) (σ:St) (H:Hp) (Q:Option Int->Hp->Prop),Inv X pins σ H s->t σ H Q ->
  wpAny (model X.prog X.w) X.A (evalPart e X.env) (λu s'=>∃o H',Inv X pins σ H' s'/\IsPart u o/\Q o H') X.xe s
noncomputable def tNoPart:TO:=λ_ H Q=>Q none H
noncomputable def tPart (t:TE):TO:=fun σ H Q=>t σ H λx H1=>∃i,x=.int i/\Q (some i) H1
theorem intsAre_of {ns:List Int}:∀{us:List Value},Vals (ns.map V.int) us->IntsAre us ns:=by
 induction ns with
 |nil=>intro us r;rw[List.map_nil]at r;cases r;exact .nil
 |cons n ns ih =>
  intro us r
  rw[YB]at r
  cases r with
  |cons r1 r2 =>
   obtain⟨t,e⟩:=r1
   subst e
   exact .cons n t (ih r2)
section
variable {X:Cx}{e:Expr}{te:TE}{lo hi:Option Expr}{tl th:TO}{pos p2:Pos}
theorem ZbP:PO X none tNoPart:=by
 intro pins s σ H Q I h
 rw[evalPart_none]
 exact Yg ⟨none,H,I,.none,h⟩
theorem ZbQ (h:PE X e te):PO X (some e) (tPart te):=by
 intro pins s σ H Q I hw
 rw[evalPart_some]
 refine thn (h pins s σ H _ I hw) λu s1 ⟨x,H1,I1,r1,q1⟩=>?_
 obtain⟨i,rfl,q⟩:=q1
 obtain⟨t,rfl⟩:=r1
 exact⟨some i,H1,I1,.int i t,q⟩
noncomputable def SlR (X:Cx) (r:V->Option Int->Option Int->Hp->VK->Prop):Prop :=
 ∀(pins:List (Addr×Obj)) (s:Shared) (σ:St) (H:Hp) (x:V) (v vl vu:Value) (lo hi:Option Int) (sl:Addr) (Q:VK),Inv X pins σ H s->RelV x v->s.heap.IsSliceOf sl vl vu .none->IsPart vl lo->IsPart vu hi->r x lo hi H Q ->
  ∃T id,typeLookup (.type T) "__getitem__"=pure (some (.builtin id))/\s.TypeIs v T/\wpAny (model X.prog X.w) X.A (getItem v (.ref sl)) (EP X pins σ Q) X.xe s
noncomputable def tSl (r:V->Option Int->Option Int->Hp->VK->Prop) (te:TE) (tl th:TO):TE:=fun σ H Q=>te σ H λx H1=>tl σ H1 λl H2=>th σ H2 λu H3=>r x l u H3 Q
theorem Zbf {r:V->Option Int->Option Int->Hp->VK->Prop} (hr:SlR X r) (he:PE X e te) (hl:PO X lo tl) (hu:PO X hi th):PE X (.Subscript e (.Slice lo hi none p2) pos) (tSl r te tl th):=by
 intro pins s σ H Q I h
 refine Subscript_ (thn (he pins s σ H _ I h) λv s1 ⟨x,H1,I1,r1,q1⟩=>?_)
 refine wpAny_Slice (thn (hl pins s1 σ H1 _ I1 q1) λvl s2 ⟨l,H2,I2,pl,q2⟩=>thn (hu pins s2 σ H2 _ I2 q2) λvu s3 ⟨u,H3,I3,pu,q3⟩=>?_)
 rw[evalPart_none]
 refine Yg ?_
 have I4:Inv X pins σ H3 {s3 with heap:=s3.heap.push {cls:=.type "slice",data:=.fields #[vl,vu,.none]}}:=I3.kept (t':=s3.toks) λb ob q=>Ym _ q
 obtain⟨T,id,hT,ht,hg⟩:=hr pins {s3 with heap:=s3.heap.push {cls:=.type "slice",data:=.fields #[vl,vu,.none]}} σ H3 x v vl vu l u s3.heap.objs.size Q I4 r1 (Heap.IsSliceOf.new ..) pl pu q3
 show wpAny (model X.prog X.w) X.A (subscriptTail e (.Slice lo hi none p2) v (.ref s3.heap.objs.size)) (EP X pins σ Q) X.xe {s3 with heap:=s3.heap.push {cls:=.type "slice",data:=.fields #[vl,vu,.none]}}
 exact tail_any (ops:=[.ref s3.heap.objs.size,v]) ht hT hg (by with_unfolding_all rfl)
noncomputable def Zcl (xs:List V) (lo hi:Option Int):List V:=(xs.drop (HT.sIx xs.length 0 lo)).take (HT.sIx xs.length xs.length hi-HT.sIx xs.length 0 lo)
theorem Zhv (xs:List V) (lo hi:Option Int):(Zcl xs lo hi).length<=xs.length:=by
 unfold Zcl
 rw[YZ,Y3]
 omega
theorem Vals.ZgS {xs:List V}{us:List Value} (r:Vals xs us):us=[]↔xs=[]:=by
 cases r with
 |nil=>simp
 |cons _ _=>simp
end
noncomputable def ixN (n:Nat) (i:Int):Option Nat:=if 0<=i then (if i<n then some i.toNat else none)else if -(n:Int)<=i then some (i+n).toNat else none
noncomputable def atI {α:Type} (xs:List α) (i:Int):Option α:=(ixN xs.length i).bind λj=>xs[j]?
theorem ZiU {n:Nat}{i:Int}{j:Nat} (h:ixN n i=some j):seqIndex? i n=some j/\j<n/\-(n:Int)<=i/\i<n:=by
 unfold ixN at h
 by_cases h0:0<=i
 ·rw[Yc h0]at h
  by_cases h1:i<n
  ·rw[Yc h1]at h
   have e:i.toNat=j:=YA h
   exact⟨by rw[seqIndex_of h0 h1,e],by omega,by omega,h1⟩
  ·rw[Ya h1]at h;cases h
 ·rw[Ya h0]at h
  by_cases h1:-(n:Int)<=i
  ·rw[Yc h1]at h
   have e:(i+n).toNat=j:=YA h
   exact⟨by rw[seqIndex_neg (by omega) h1,e],by omega,h1,by omega⟩
  ·rw[Ya h1]at h;cases h
theorem ZiV {α:Type}{xs:List α}{i:Int}{v:α} (h:atI xs i=some v):∃j,seqIndex? i xs.length=some j/\xs[j]?=some v/\j<xs.length/\-(xs.length:Int)<=i/\i<xs.length:=by
 unfold atI at h
 cases e:ixN xs.length i with
 |none=>rw[e]at h;cases h
 |some j =>
  rw[e]at h
  obtain⟨h1,h2,h3,h4⟩:=ZiU e
  exact⟨j,h1,h,h2,h3,h4⟩
theorem ZgT {α:Type}{xs:List α}{j:Nat}{v:α} (h:xs[j]?=some v):atI xs (j:Int)=some v:=by
 have hj:j<xs.length:=(Yk.mp h).1
 have e:ixN xs.length (j:Int)=some j:=by
  unfold ixN
  rw[Yc (by omega),Yc (by omega)];simp
 unfold atI;rw[e];exact h
theorem Zkx {α:Type} (xs:List α) (v:α):atI (xs++[v]) (-1)=some v:=by
 have hl:(xs++[v]).length=xs.length+1:=by simp
 have e:ixN (xs++[v]).length (-1)=some xs.length:=by
  unfold ixN
  rw[hl,Ya (by decide),Yc (by omega)]
  congr 1
  omega
 unfold atI
 rw[e]
 show(xs++[v])[xs.length]?=some v
 simp
noncomputable def Zmr (b:Expr):Prop:=∀o i,subscripted b false o i=operate [o,i] (getItem o i)
noncomputable def IxR (X:Cx) (r:R2):Prop :=
 ∀(value slice:Expr) (pins:List (Addr×Obj)) (s:Shared) (σ:St) (H:Hp) (x y:V) (v u:Value) (Q:VK),Inv X pins σ H s->RelV x v->RelV y u->r x y H Q ->
  subscripted slice false v u=operate [v,u] (getItem v u)->wpAny (model X.prog X.w) X.A (subscriptTail value slice v u) (EP X pins σ Q) X.xe s
noncomputable def MtR (X:Cx) (id:String) (r:V->List V->Hp->VK->Prop):Prop :=
 ∀(pins:List (Addr×Obj)) (s:Shared) (σ:St) (H:Hp) (x:V) (xs:List V) (v:Value) (us:List Value) (Q:VK),Inv X pins σ H s->RelV x v->Vals xs us->r x xs H Q ->
  wpAny (model X.prog X.w) X.A (call (.builtin id) (v::us)) (EP X pins σ Q) X.xe s
section
variable {X:Cx}{a b:Expr}{ta tb:TE}{pos:Pos}
theorem IxR.or {r r':R2} (h:IxR X r) (h':IxR X r'):IxR X (λx y H Q=>r x y H Q\/r' x y H Q):=by
 intro value slice pins s σ H x y v u Q I rx ry q hs
 rcases q with q|q
 ·exact h value slice pins s σ H x y v u Q I rx ry q hs
 ·exact h' value slice pins s σ H x y v u Q I rx ry q hs
theorem ZF {r:R2} (hr:IxR X r) (ha:PE X a ta) (hb:PE X b tb) (hs:Zmr b):PE X (.Subscript a b pos) (tOp r ta tb):=by
 intro pins s σ H Q I h
 exact Subscript_ (binT ha hb I h λv u s2 x y H2 I2 rx ry q=>hr a b pins s2 σ H2 x y v u Q I2 rx ry q (hs _ _))
noncomputable def rIxL (K:PySem.W.Frag):R2:=λx y H Q=>∃p xs i v,x=.ref p/\y=.int i/\SqL K H p xs/\atI xs i=some v/\Q v H
noncomputable def rIxT (K:PySem.W.Frag):R2:=λx y H Q=>∃p xs i v,x=.ref p/\y=.int i/\SqT K H p xs/\atI xs i=some v/\Q v H
theorem ZQ:IxR X (rIxL X.K):=by
 intro value slice pins s σ H x y v u Q I rx ry h hs
 obtain⟨p,xs,i,z,rfl,rfl,hq,he,q⟩:=h
 cases rx
 obtain⟨t,rfl⟩:=ry
 obtain⟨its,r,pl,hz⟩:=I.list hq
 obtain⟨j,h1,h2,h3,h4,h5⟩:=ZiV he
 obtain⟨w,ew,rw'⟩:=r.get h2
 have hl:=r.length
 have hn:=Zfq
 have fin:EP X pins σ Q w s:=⟨z,H,I,rw',q⟩
 by_cases h0:0<=i
 ·have hj:i.toNat=j:=by
   rw[seqIndex_of h0 h5]at h1
   exact YA h1
  exact item_listR pl.isList h0 (by omega) (by rw[hj];simpa using ew) fin hs
 ·have hj:(i+(its.toArray.size:Int)).toNat=j:=by
   rw[seqIndex_neg (by omega) h4]at h1
   rw[Yj,<-hl]
   exact YA h1
  exact subscriptTail_builtinR (x:=w) pl.isList.typeIs slot_list_getitem.lookup
   (wpAny_getItem_list_neg (Q:=λr s'=>r=w/\EP X pins σ Q r s') pl.isList (by omega) (by rw[Yj]<;>omega) (by omega) (by rw[hj];simpa using ew) ⟨rfl,fin⟩) hs
theorem Zcm:IxR X (rIxT X.K):=by
 intro value slice pins s σ H x y v u Q I rx ry h hs
 obtain⟨p,xs,i,z,rfl,rfl,hq,he,q⟩:=h
 cases rx
 obtain⟨t,rfl⟩:=ry
 obtain⟨its,r,pl,hz⟩:=I.tuple hq
 obtain⟨j,h1,h2,h3,h4,h5⟩:=ZiV he
 obtain⟨w,ew,rw'⟩:=r.get h2
 have hl:=r.length
 have hn:=Zfq
 have fin:EP X pins σ Q w s:=⟨z,H,I,rw',q⟩
 exact subscriptTail_builtinR (x:=w) pl.typeIs slot_tuple_getitem.lookup
  (getItem_tuple (j:=j) (Q:=λr s'=>r=w/\EP X pins σ Q r s') pl (by omega) (by omega) (by rw[Yj,<-hl];exact h1) (by simpa using ew) ⟨rfl,fin⟩) hs
theorem Ziq (its:List Value) (n j:Nat) (u:Value):Obj.mapSeq (·.setIfInBounds j u) {cls:=.type "list",data:=.seq its.toArray n}={cls:=.type "list",data:=.seq (its.set j u).toArray n}:=by
 simp[Obj.mapSeq]
theorem Inv.lst {pins:List (Addr×Obj)}{σ:St}{H:Hp}{s:Shared}{p:Addr}{xs:List V} (I:Inv X pins σ H s) (h:H p=some (.lst xs)) :
  ∃(its:List Value) (n:Nat),Vals xs its/\s.heap.get? p=some {cls:=.type "list",data:=.seq its.toArray n}/\xs.length<=sizeLine:=by
 obtain⟨z,its,n,r,e⟩:=I.hok p _ h
 exact⟨its,n,r,e,z⟩
theorem Inv.lstUpd {pins:List (Addr×Obj)}{σ:St}{H:Hp}{s:Shared}{p:Addr}{xs ys:List V}{its its':List Value}{n n':Nat}{f:Obj->Obj} (I:Inv X pins σ H s) (h:H p=some (.lst xs))
  (ho:s.heap.get? p=some {cls:=.type "list",data:=.seq its.toArray n}) (hf:f {cls:=.type "list",data:=.seq its.toArray n}={cls:=.type "list",data:=.seq its'.toArray n'}) (r:Vals ys its') (hz:ys.length<=sizeLine) (t:Nat) :
  Inv X pins σ (upd H p (.lst ys)) {s with heap:=s.heap.update p f,toks:=t}:=by
 have e:(s.heap.update p f).get? p=some {cls:=.type "list",data:=.seq its'.toArray n'}:=by
  rw[Heap.get?_update_self f ho (by rw[hf]<;>rfl),hf]
 refine I.write (x:=p) (e:=p) (by rw[h];trivial) (.inl rfl) (λb u hb q=>(Heap.get?_update_other _ _ (Ne.symm hb)).trans q) ⟨_,e⟩ ?_
 exact⟨hz,its',n',r,e⟩
noncomputable def rSetL:V->V->V->Hp->(Hp->Prop)->Prop:=λo i v H Q=>∃p xs k j,o=.ref p/\i=.int k/\H p=some (.lst xs)/\ixN xs.length k=some j/\Q (upd H p (.lst (xs.set j v)))
theorem set_list:PSet X rSetL:=by
 intro pins s σ H o i v ov iv u Q I ro ri rv h
 obtain⟨p,xs,k,j,rfl,rfl,hp,hj,q⟩:=h
 cases ro
 obtain⟨t,rfl⟩:=ri
 obtain⟨its,n,r,ho,hz⟩:=I.lst hp
 obtain⟨h1,h2,h3,h4⟩:=ZiU hj
 have hl:=r.length
 have hn:=Zfq
 have I':Inv X pins σ (upd H p (.lst (xs.set j v))) {s with heap:=s.heap.update p (Obj.mapSeq (·.setIfInBounds j u))} :=
  I.lstUpd hp ho (Ziq its n j u) (r.set rv j) (by rw[List.length_set];exact hz) s.toks
 by_cases h0:0<=k
 ·have hk:k.toNat=j:=by
   rw[seqIndex_of h0 h4]at h1
   exact YA h1
  exact PySem.W.ki_setAt ho h0 (by omega) (by rw[Yj,<-hl];exact h4) (by rw[hk];exact⟨_,I',q⟩)
 ·have hk:(k+(its.toArray.size:Int)).toNat=j:=by
   rw[seqIndex_neg (by omega) h3]at h1
   rw[Yj,<-hl]
   exact YA h1
  exact PySem.W.ki_setBack ho (by omega) (by rw[Yj,<-hl];exact h3) (by omega) (by rw[hk];exact⟨_,I',q⟩)
theorem ZgU (lo hi:Option Int) (n:Nat):(sliceBounds lo hi none n).1=((HT.sIx n 0 lo:Nat):Int)/\(sliceBounds lo hi none n).2.1=((HT.sIx n n hi:Nat):Int)/\(sliceBounds lo hi none n).2.2=1:=by
 refine⟨?_,?_,rfl⟩
 ·cases lo with
  |none=>simp[sliceBounds,HT.sIx]
  |some i =>
   simp only[sliceBounds,HT.sIx,Option.getD_none,show(1:Int)>0 by decide,if_true]
   by_cases h:i<0
   ·simp only[h,if_true]<;>omega
   ·simp only[h,if_false]<;>omega
 ·cases hi with
  |none=>simp[sliceBounds,HT.sIx]
  |some i =>
   simp only[sliceBounds,HT.sIx,Option.getD_none,show(1:Int)>0 by decide,if_true]
   by_cases h:i<0
   ·simp only[h,if_true]<;>omega
   ·simp only[h,if_false]<;>omega
theorem Zf0 (its:List Value) (lo hi:Option Int):slicePick its.toArray lo hi none=((its.drop (HT.sIx its.length 0 lo)).take (HT.sIx its.length its.length hi-HT.sIx its.length 0 lo)).toArray:=by
 obtain⟨h1,h2,h3⟩:=ZgU lo hi its.toArray.size
 unfold slicePick
 rw[h1,h2,h3]
 simp only[sliceRange_one,pick_run,Yj]<;>rfl
noncomputable def rSlL (K:PySem.W.Frag):V->Option Int->Option Int->Hp->VK->Prop:=λx lo hi H Q=>∃a xs,x=.ref a/\SqL K H a xs/\∀p,H p=none->Q (.ref p) (upd H p (.lst (Zcl xs lo hi)))
theorem ZbR:SlR X (rSlL X.K):=by
 intro pins s σ H x v vl vu lo hi sl Q I rx hs pl pu h
 obtain⟨a,xs,rfl,hx,q⟩:=h
 cases rx
 obtain⟨its,r,ht,hz⟩:=I.list hx
 have hlen:=r.length
 refine⟨"list",_,slot_list_getitem.lookup,ht.isList.typeIs,?_⟩
 refine wpAny_getItem_list_slice ht.isList hs pl pu .none (by simp) ?_ (by rw[Yj]<;>omega)
 rw[Zf0,<-hlen]
 refine⟨.ref s.heap.objs.size,_,I.laid (t':=s.toks) (o:=.lst (Zcl xs lo hi)) (λb ob q=>Ym _ q) (Yd _) ?_,rfl,q _ (I.hok.fresh (Yd _))⟩
 exact⟨Yh (Zhv xs lo hi) hz,_,0,(r.drop (HT.sIx xs.length 0 lo)).take (HT.sIx xs.length xs.length hi-HT.sIx xs.length 0 lo),Yz _ rfl⟩
noncomputable def flatV:V->Bool
 |.non=>true
 |.bl _=>true
 |.int _=>true
 |.str _=>true
 |_=>false
noncomputable def eqV:V->V->Bool
 |.non,.non=>true
 |.bl a,.bl b=>a==b
 |.bl a,.int b=>(if a then 1 else 0)==b
 |.int a,.bl b=>a==(if b then 1 else 0)
 |.int a,.int b=>a==b
 |.str a,.str b=>a==b
 |_,_=>false
theorem Zky {A:Around}{s:Shared}{y x:V}{u v:Value} (ry:RelV y u) (rx:RelV x v) (fy:flatV y=true) (fx:flatV x=true):SeqAt.EqAt A s u v (eqV y x):=by
 cases y with
 |non =>
  cases ry
  cases x with
  |non=>cases rx;exact SeqAt.EqAt.same _
  |bl b=>cases rx;exact SeqAt.EqAt.none_bool b
  |int b=>obtain⟨t,rfl⟩:=rx;exact SeqAt.EqAt.none_int b t
  |str b=>obtain⟨t,rfl⟩:=rx;exact SeqAt.EqAt.none_str b t
  |_=>exact absurd (show false=true from fx) Ys
 |bl a =>
  cases ry
  cases x with
  |non=>cases rx;exact SeqAt.EqAt.bool_none a
  |bl b=>cases rx;exact SeqAt.EqAt.bool_bool a b
  |int b=>obtain⟨t,rfl⟩:=rx;exact SeqAt.EqAt.bool_int a b t
  |str b=>obtain⟨t,rfl⟩:=rx;exact SeqAt.EqAt.bool_str a b t
  |_=>exact absurd (show false=true from fx) Ys
 |int a =>
  obtain⟨t',rfl⟩:=ry
  cases x with
  |non=>cases rx;exact SeqAt.EqAt.int_none a t'
  |bl b=>cases rx;exact SeqAt.EqAt.int_bool a t' b
  |int b=>obtain⟨t,rfl⟩:=rx;exact SeqAt.EqAt.int_int a t' b t
  |str b=>obtain⟨t,rfl⟩:=rx;exact SeqAt.EqAt.int_str a t' b t
  |_=>exact absurd (show false=true from fx) Ys
 |str a =>
  obtain⟨t',rfl⟩:=ry
  cases x with
  |non=>cases rx;exact SeqAt.EqAt.str_none a t'
  |bl b=>cases rx;exact SeqAt.EqAt.str_bool a t' b
  |int b=>obtain⟨t,rfl⟩:=rx;exact SeqAt.EqAt.str_int a t' b t
  |str b=>obtain⟨t,rfl⟩:=rx;exact SeqAt.EqAt.str_str a t' b t
  |_=>exact absurd (show false=true from fx) Ys
 |_=>exact absurd (show false=true from fy) Ys
theorem ZgV:Zbb X (.builtin "len") (λxs H Q=>∃p ys,xs=[.ref p]/\(SqL X.K H p ys\/SqT X.K H p ys)/\Q (.int ys.length) H):=by
 intro pins s σ H xs us Q I r h
 obtain⟨p,ys,rfl,hq,q⟩:=h
 obtain⟨u,rfl,rx⟩:=vals1 r
 cases rx
 have hn:=Zfq
 rcases hq with hq|hq
 ·obtain⟨its,r',pl,hz⟩:=I.list hq
  have hlen:=r'.length
  exact Calls.call_len_list pl.isList (by simp only[Yj]<;>omega) ⟨.int ys.length,H,I.tok _,⟨s.toks+1,by rw[Yj,hlen]⟩,q⟩
 ·obtain⟨its,r',pl,hz⟩:=I.tuple hq
  have hlen:=r'.length
  exact len_tuple pl (by simp only[Yj]<;>omega) ⟨.int ys.length,H,I.tok _,⟨s.toks+1,by rw[Yj,hlen]⟩,q⟩
theorem ZgW:Zbb X (.type "list") (λxs H Q=>∃p ys,xs=[.ref p]/\(SqL X.K H p ys\/SqT X.K H p ys)/\∀l,H l=none->Q (.ref l) (upd H l (.lst ys))):=by
 intro pins s σ H xs us Q I r h
 obtain⟨p,ys,rfl,hq,q⟩:=h
 obtain⟨u,rfl,rx⟩:=vals1 r
 cases rx
 have fin:∀(its:List Value),Vals ys its->ys.length<=sizeLine->∀(h':Heap) (c':Nat),(∀b o',s.heap.get? b=some o'->h'.get? b=some o') ->
   h'.get? s.heap.objs.size=some {cls:=.type "list",dict:=none,data:=.seq its.toArray c',slots:=#[]}->EP X pins σ Q (.ref s.heap.objs.size) {s with heap:=h'}:=λits r' hz h' c' kp e =>
  ⟨.ref s.heap.objs.size,_,I.laid (t':=s.toks) kp (Yd _) (show ZJ X.prog X.w _ h' _ (.lst ys)from⟨hz,its,c',r',e⟩),rfl,q _ (I.hok.fresh (Yd _))⟩
 rcases hq with hq|hq
 ·obtain⟨its,r',pl,hz⟩:=I.list hq
  have hlen:=r'.length
  obtain⟨o,ho,hc,n,hd⟩:=pl.isList
  exact call_list_seq p (.inl rfl) ho hc hd (λh' c' kp e=>fin its r' hz h' c' kp e) (by simp only[Yj]<;>omega)
 ·obtain⟨its,r',pl,hz⟩:=I.tuple hq
  have hlen:=r'.length
  obtain⟨o,ho,hc,n,hd⟩:=pl
  exact call_list_seq p (.inr rfl) ho hc hd (λh' c' kp e=>fin its r' hz h' c' kp e) (by simp only[Yj]<;>omega)
theorem Zf1:Zbb X (.type "tuple") (λxs H Q=>∃p ys,xs=[.ref p]/\((SqL X.K H p ys/\∀l,H l=none->Q (.ref l) (upd H l (.tup ys)))\/(SqT X.K H p ys/\Q (.ref p) H))):=by
 intro pins s σ H xs us Q I r h
 obtain⟨p,ys,rfl,h⟩:=h
 obtain⟨u,rfl,rx⟩:=vals1 r
 cases rx
 rcases h with⟨hq,q⟩|⟨hq,q⟩
 ·obtain⟨its,r',pl,hz⟩:=I.list hq
  have hlen:=r'.length
  refine call_tuple_list pl.isList (λh' kp=>?_) (by simp only[Yj]<;>omega)
  have I1:Inv X pins σ H {s with heap:=h'}:=I.kept (t':=s.toks) kp
  have I2:Inv X pins σ (upd H h'.objs.size (.tup ys)) {s with heap:=h'.push {cls:=.type "tuple",data:=.seq its.toArray}} :=
   I1.laid (t':=s.toks) (λb o e=>Ym _ e) (Yd _) (show ZJ X.prog X.w _ _ _ (.tup ys)from⟨hz,its,r',IsTup.new _ _⟩)
  exact⟨.ref h'.objs.size,_,I2,rfl,q _ (I1.hok.fresh (Yd _))⟩
 ·obtain⟨its,r',pl,hz⟩:=I.tuple hq
  exact call_tuple_same pl ⟨.ref p,H,I,rfl,q⟩
noncomputable def tyV (K:PySem.W.Frag) (T:String) (x:V) (H:Hp):Prop:=match x with
 |.str _=>T="str"
 |.int _=>T="int"
 |.ref p=>(T="list"/\∃xs,SqL K H p xs)\/(T="tuple"/\∃o,K.lookup p=some o/\o.cls=.type "tuple"/\o.dict=none) \/
   (T="dict"/\((∃kvs,H p=some (.dK kvs))\/∃kvs,H p=some (.dT kvs)))\/(T="set"/\∃S n,H p=some (.set S n))
 |_=>False
theorem tyV_is {pins:List (Addr×Obj)}{σ:St}{H:Hp}{s:Shared}{T:String}{x:V}{v:Value} (I:Inv X pins σ H s) (r:RelV x v) (ty:tyV X.K T x H) :
  s.TypeIs v T/\∀a,v=.ref a->∃ob,s.heap.get? a=some ob/\ob.dict=none:=by
 cases x with
 |str z =>
  obtain⟨t,rfl⟩:=r
  cases(show T="str" from ty)
  exact⟨typeIs_str s z t,λ_ e=>nomatch e⟩
 |int i =>
  obtain⟨t,rfl⟩:=r
  cases(show T="int" from ty)
  exact⟨typeIs_int s i t,λ_ e=>nomatch e⟩
 |ref p =>
  cases r
  rcases ty with⟨rfl,xs,hq⟩|⟨rfl,o,hk,hc,hd⟩|⟨rfl,hk⟩|⟨rfl,S,n,hk⟩
  ·obtain⟨its,_,pl,_⟩:=I.list hq
   refine⟨pl.isList.typeIs,λa e=>?_⟩
   cases e
   obtain⟨o,n,e,c,hd,_⟩:=pl
   exact⟨o,e,hd⟩
  ·refine⟨⟨o,I.kIn p o hk,hc⟩,λa e=>?_⟩
   cases e
   exact⟨o,I.kIn _ o hk,hd⟩
  ·have z:∃o,s.heap.get? p=some o/\o.ExactDict:=by
    rcases hk with⟨kvs,hk⟩|⟨kvs,hk⟩
    ·obtain⟨_,_,_,_,o,_,_,e,ex,_⟩:=I.hok p _ hk
     exact⟨o,e,ex⟩
    ·obtain⟨_,_,_,_,o,_,_,e,ex,_⟩:=I.hok p _ hk
     exact⟨o,e,ex⟩
   obtain⟨o,e,ex⟩:=z
   refine⟨⟨o,e,ex.1⟩,λa e2=>?_⟩
   cases e2
   exact⟨o,e,ex.2.1⟩
  ·obtain⟨o,_,_,_,e,ex,_⟩:=I.hok p _ hk
   refine⟨⟨o,e,ex.1⟩,λa e2=>?_⟩
   cases e2
   exact⟨o,e,ex.2.1⟩
 |_=>exact False.elim ty
noncomputable def tBM (K:PySem.W.Frag) (T:String) (r:V->List V->Hp->VK->Prop) (to:TE) (t:TA):TE:=fun σ H Q=>to σ H λx H1=>tyV K T x H1/\t σ H1 λxs H2=>r x xs H2 Q
variable {o e:Expr}{es:List Expr}{to:TE}{t:TA}{name:Str}{apos cpos:Pos}{T id:String}{r:V->List V->Hp->VK->Prop}
theorem ZdZ (pa:PlainAttrs T) (slot:Slot T name id) (hty:typeOf (.builtin id)=pure (.type "method_descriptor")) (hm:MtR X id r) (ho:PE X o to) (ha:PA X (e::es) t)
  (hbase:attributeBase o name X.env (eval o X.env)=eval o X.env:=by rfl)
  (hfew:((backTo cpos (starEach (e::es) X.env)).all (λx=>!x.1)&&(backToKw cpos (keywordEach [] X.env)).all (λx=>x.1.isSome)
   && decide ((e::es).length+([]:List Keyword).length+(if ([]:List Keyword).isEmpty then 0 else 1)<30))=true:=by rfl)
  (hline:(apos.endLine==cpos.line)=true:=by rfl) (hs:starEach (e::es) X.env=(false,eval e X.env)::starEach es X.env:=by rfl) (hplain:(backTo cpos (starEach es X.env)).any (·.1)=false:=by rfl) :
  PE X (.Call (.Attribute o name apos) (e::es) [] cpos) (tBM X.K T r to t):=by
 intro pins s σ H Q I h
 refine wpAny_Call_method_late hbase hfew hline rfl (thn (ho pins s σ H _ I h) λv s1 ⟨x,H1,I1,r1,ty,q1⟩=>?_)
 obtain⟨h1,h2⟩:=tyV_is I1 r1 ty
 refine⟨T,id,pa,slot,hty,h1,h2,?_⟩
 have hA:=ha cpos pins s1 σ H1 _ I1 q1
 rw[hs]at hA⊢
 refine Calls.callWith_builtin (by show(false||(backTo cpos (starEach es X.env)).any (·.1))=false;rw[hplain]<;>rfl) (Calls.evalArgs_plain ?_)
 exact thn hA λus s2 ⟨vs,H2,I2,r2,q2⟩=>hm pins s2 σ H2 x vs v us Q I2 r1 r2 q2
end
noncomputable def MtM (X:Cx) (id:String) (r:V->List V->Hp->VK->Prop):Prop :=
 ∀(pins:List (Addr×Obj)) (s:Shared) (σ:St) (H:Hp) (x:V) (xs:List V) (v:Value) (us:List Value) (Q:VK),Inv X pins σ H s->RelV x v->Vals xs us->r x xs H Q ->
  wpAny (model X.prog X.w) X.A (call (.builtin id) (v::us)) (EP X pins σ Q) X.xe s
theorem Vals.one:∀{x:V}{us:List Value},Vals [x] us->∃u,us=[u]/\RelV x u
 |_,_,.cons r .nil=>⟨_,rfl,r⟩
theorem Vals.two:∀{x y:V}{us:List Value},Vals [x,y] us->∃u v,us=[u,v]/\RelV x u/\RelV y v
 |_,_,_,.cons r (.cons q .nil)=>⟨_,_,rfl,r,q⟩
theorem Vals.rep {xs:List V}{us:List Value} (h:Vals xs us):∀k:Nat,Vals (List.replicate k xs).flatten (List.replicate k us).flatten
 |0=>.nil
 |k+1=>by
  rw[List.replicate_succ,List.replicate_succ,List.flatten_cons,List.flatten_cons]
  exact Vals.append h (Vals.rep h k)
theorem foldl_rep (its:List Value):∀(k:Nat) (acc:List Value),
  List.foldl (λx1 x2=>x1++x2) acc.toArray (List.replicate k its.toArray)=(acc++(List.replicate k its).flatten).toArray
 |0,acc=>by simp
 |k+1,acc=>by
  have e:acc.toArray++its.toArray=(acc++its).toArray:=by simp
  have e2:(acc++its)++(List.replicate k its).flatten=acc++(List.replicate (k+1) its).flatten:=by
   rw[List.replicate_succ,List.flatten_cons,YD]
  rw[<-e2,<-foldl_rep its k (acc++its),<-e,List.replicate_succ,List.foldl_cons]
section
variable {X:Cx}{pins:List (Addr×Obj)}{σ:St}{H:Hp}{s:Shared}{l b:Addr}{xs ys zs:List V}
theorem Inv.lset {its its':List Value}{n:Nat}{f:Array Value->Array Value}{t':Nat} (I:Inv X pins σ H s) (hH:H l=some (.lst xs))
  (e:s.heap.get? l=some {cls:=.type "list",data:=.seq its.toArray n}) (hf:f its.toArray=its'.toArray) (hv:Vals ys its') (hz:ys.length<=sizeLine) :
  Inv X pins σ (upd H l (.lst ys)) {s with heap:=s.heap.update l (Obj.mapSeq f),toks:=t'}:=by
 have q:=PySem.IsL.update e f
 rw[hf]at q
 refine I.write (x:=l) (e:=l) (by rw[hH];exact trivial) (.inl rfl) (λb' u hb hu=>(Heap.get?_update_other s.heap (Obj.mapSeq f) (Ne.symm hb)).trans hu) ⟨_,q⟩ ?_
 exact⟨hz,its',_,hv,q⟩
theorem Inv.lnew {its:List Value}{t':Nat} (I:Inv X pins σ H s) (hv:Vals ys its) (hz:ys.length<=sizeLine) :
  Inv X pins σ (upd H s.heap.objs.size (.lst ys)) {s with heap:=s.heap.push {cls:=.type "list",data:=.seq its.toArray},toks:=t'} :=
 I.laid (λ_ _ q=>Ym _ q) (Yd _) ⟨hz,its,0,hv,Yz _ rfl⟩
theorem Inv.fresh (I:Inv X pins σ H s):H s.heap.objs.size=none:=I.hok.fresh (Yd _)
theorem Inv.Zhw (I:Inv X pins σ H s) (hH:H l=some (.lst xs)):xs.length<=sizeLine/\∃(its:List Value) (n:Nat),Vals xs its/\xs.length=its.length/\s.heap.get? l=some {cls:=.type "list",data:=.seq its.toArray n}:=by
 obtain⟨z,its,n,r,e⟩:=I.hok l _ hH
 exact⟨z,its,n,r,r.length,e⟩
theorem Zhx {n:Nat} (h:n<=sizeLine):Builtin.List.listTooLong n=false:=by
 unfold Builtin.List.listTooLong
 exact YI (by omega)
end
section
variable {X:Cx}
noncomputable def rAppend:V->List V->Hp->VK->Prop:=λx vs H Q=>∃l xs y,x=.ref l/\vs=[y]/\H l=some (.lst xs)/\xs.length<sizeLine/\Q .non (upd H l (.lst (xs++[y])))
theorem Zbx:MtM X "list.append" rAppend:=by
 intro pins s σ H x vs v us Q I rx rv h
 obtain⟨l,xs,y,rfl,rfl,hH,hz,q⟩:=h
 cases rx
 obtain⟨u,rfl,ru⟩:=rv.one
 obtain⟨z,its,n,r,hl,e⟩:=I.Zhw hH
 refine call_meets F.slot_list_append ⟨_,e,rfl⟩ F.entry_list_append (F.args_list_append_2 _ _) (PySem.list_append l its.toArray n u (by rw[Yj];omega)) ⟨e,?_⟩
 refine⟨.non,_,I.lset (its':=its++[u]) hH e (by simp) (r.append (.cons ru .nil)) ?_,rfl,q⟩
 rw[Yy,List.length_singleton]
 omega
noncomputable def rExtend:V->List V->Hp->VK->Prop:=λx vs H Q=>∃l b xs zs,x=.ref l/\vs=[.ref b]/\H l=some (.lst xs)/\H b=some (.lst zs)/\xs.length+zs.length<=sizeLine/\Q .non (upd H l (.lst (xs++zs)))
theorem Zjy:MtM X "list.extend" rExtend:=by
 intro pins s σ H x vs v us Q I rx rv h
 obtain⟨l,b,xs,zs,rfl,rfl,hH,hB,hz,q⟩:=h
 cases rx
 obtain⟨u,rfl,ru⟩:=rv.one
 cases ru
 obtain⟨z,its,n,r,hl,e⟩:=I.Zhw hH
 obtain⟨z2,its2,n2,r2,hl2,e2⟩:=I.Zhw hB
 have hsz:its.toArray.size+its2.toArray.size<=sizeLine:=by rw[Yj,Yj];omega
 have hlong:¬ (!its.toArray.isEmpty&&Builtin.List.listTooLong (its.toArray.size+its2.toArray.size))=true:=by
  rw[Zhx hsz,Bool.and_false]
  exact Ys
 refine call_meets F.slot_list_extend ⟨_,e,rfl⟩ F.entry_list_extend (F.args_list_extend_2 _ _)
  (AutoSeq1.list_extend_list_list_0 l its.toArray n b its2.toArray n2 hlong (by rw[Yj];omega) (by omega)) ⟨e,e2,?_⟩
 refine⟨.non,_,I.lset (its':=its++its2) hH e (by simp) (r.append r2) ?_,rfl,q⟩
 rw[Yy]
 omega
noncomputable def rCat:R2:=λx y H Q=>∃l b xs zs,x=.ref l/\y=.ref b/\H l=some (.lst xs)/\H b=some (.lst zs)/\xs.length+zs.length<=sizeLine/\∀p,H p=none->Q (.ref p) (upd H p (.lst (xs++zs)))
theorem ZdH:OpR X (binaryOp .Add) rCat:=by
 intro pins s σ H x y v u Q I rx ry h
 obtain⟨l,b,xs,zs,rfl,rfl,hH,hB,hz,q⟩:=h
 cases rx
 cases ry
 obtain⟨z,its,n,r,hl,e⟩:=I.Zhw hH
 obtain⟨z2,its2,n2,r2,hl2,e2⟩:=I.Zhw hB
 refine PySem.P.add_list e e2 ?_ (by rw[Yj,Yj];omega)
 have ea:its.toArray++its2.toArray=(its++its2).toArray:=by simp
 rw[ea]
 exact⟨.ref _,_,I.lnew (t':=s.toks) (r.append r2) (by rw[Yy];omega),rfl,q _ I.fresh⟩
noncomputable def rRep:R2:=λx y H Q=>∃l k xs,x=.ref l/\y=.int k/\H l=some (.lst xs)/\-(2 ^ 63)<=k/\k<2 ^ 63/\xs.length*k.toNat<=sizeLine /\
 ∀p,H p=none->Q (.ref p) (upd H p (.lst (List.replicate k.toNat xs).flatten))
theorem len_rep {α:Type} (xs:List α) (k:Nat):(List.replicate k xs).flatten.length=k*xs.length:=by
 induction k with
 |zero=>simp
 |succ k ih=>rw[List.replicate_succ,List.flatten_cons,Yy,ih,Nat.succ_mul,Nat.add_comm]
theorem Zir:OpR X (binaryOp .Mult) rRep:=by
 intro pins s σ H x y v u Q I rx ry h
 obtain⟨l,k,xs,rfl,rfl,hH,h1,h2,hz,q⟩:=h
 cases rx
 obtain⟨t,rfl⟩:=ry
 obtain⟨z,its,n,r,hl,e⟩:=I.Zhw hH
 have hlen:its.toArray.size*k.toNat<=sizeLine:=by rw[Yj,<-hl];exact hz
 have hcap:¬ its.toArray.size*k.toNat>(2 ^ 63-1) / 8:=by
  have:(sizeLine:Nat)<=(2 ^ 63-1) / 8:=by decide
  omega
 have hfit:¬ (!Builtin.List.listFitsIndex k)=true:=by
  rw[fitsIndex_both h1 h2]
  exact Ys
 have hlong:¬ Builtin.List.listTooLong (its.toArray.size*k.toNat)=true:=by
  rw[Zhx hlen]
  exact Ys
 have hnew:List.foldl (λx1 x2=>x1++x2) #[] (List.replicate (if its.toArray.isEmpty=true then 0 else k.toNat) its.toArray)=(List.replicate k.toNat its).flatten.toArray:=by
  have f0:∀m:Nat,List.foldl (λx1 x2=>x1++x2) #[] (List.replicate m its.toArray)=(List.replicate m its).flatten.toArray:=λm=>by
   have:=foldl_rep its m []
   rw[List.nil_append]at this
   exact this
  rw[f0]
  cases its with
  |nil=>simp
  |cons a r'=>rw[Ya (by simp)]
 refine wpAny_binaryOp_repeat_ref (T:="list") (U:="int") (by decide) ⟨_,e,rfl⟩ (λs'=>typeIs_int s' k t) noFill_list_mul F.fills_int_mul F.slot_int_rmul repeat_list F.slot_int_index.lookup
  (call_meets F.slot_int_rmul (typeIs_int s k t) F.entry_int_rmul (F.args_int_rmul_2 _ _) (int___rmul___int_list k t l its.toArray n)
   ⟨e,rfl,⟨_,e,rfl⟩,call_meets F.slot_list_mul ⟨_,e,rfl⟩ F.entry_list_mul (F.args_list_mul_2 _ _) (AutoListH.list___mul___list_int_3 l its.toArray n k t hfit hcap hlong) ⟨e,?_⟩⟩)
 rw[hnew]
 exact⟨.ref _,_,I.lnew (t':=s.toks) (r.rep k.toNat) (by rw[len_rep,Nat.mul_comm];exact hz),rfl,q _ I.fresh⟩
end
end L2
namespace Att
open PySem PySem.W PySem.Calls PyProof.Rows
theorem Ze2 {P:Params}{h:Heap}:∀(ns:List Int) (vs:List Value),WellAll P h vs (ns.map WData.int)->IntsAre vs ns:=by
 intro ns
 induction ns with
 |nil =>
  intro vs w
  rw[List.map_nil]at w
  cases w
  exact .nil
 |cons n ns ih =>
  intro vs w
  rw[YB]at w
  cases w with
  |cons a b =>
   cases a
   exact .cons _ _ (ih _ b)
theorem Zjz {l:OpenLaw}{n:Nat} (hn:l.most=some n) {P:Params}{h:Heap}{args:List WData}{vals:List Value}
  (hpre:l.row.toRowW.claim.pre args=true) (hwl:WellAll P h vals args) :
  ∃a vs ns,vals=[Value.ref a]/\args=[WData.list (ns.map WData.int)]/\h.get? a=some {cls:=.type "list",data:=.seq vs.toArray}/\IntsAre vs ns/\ns.length<=n:=by
 have hsh:WShape.hasAll [] args [.list .int]=true:=(pre_splitW hpre).1
 have hc:l.pre.holds [] {args:=args}=true:=(pre_splitW hpre).2
 obtain⟨d,r,rfl,h1,h2⟩:=hasAllW_cons hsh
 obtain rfl:=hasAllW_nil h2
 obtain⟨xs,rfl,h3⟩:=hasW_list h1
 obtain⟨ns,rfl⟩:=items_int h3
 have hlen:ns.length<=n:=by
  unfold OpenLaw.pre at hc
  have h4:(WTm.not (.lt (.lit (.int (n:Int))) (.len (.arg 0)))).holds [] {args:=[.list (ns.map .int)]}=true:=by
   have h4:=(holds_andW hc).1
   rw[hn]at h4
   exact h4
  have h5:=condW_of h4 (w_not (w_lt w_lit (w_len_list (w_arg rfl))))
  rw[Yf]at h5
  refine Nat.le_of_not_lt λq=>?_
  have q':(n:Int)<((ns.length:Nat):Int):=by omega
  first
   |(rw[YL q']at h5;exact absurd h5 (by decide))
   |(simp at h5;omega)
 cases hwl with
 |cons w1 w2 =>
  cases w2
  cases w1 with
  |list ho hall=>exact⟨_,_,ns,rfl,rfl,ho,Ze2 ns _ hall,hlen⟩
theorem ZjA (l:OpenLaw) (args:List WData):l.row.toRowW.claim.post args (.bool true) args=true :=
 postW_of (r:=l.row.toRowW) (X:=(true==true))
  (show WShape.has [] (.bool true) .bool=true by first|rfl|decide|simp[WShape.has,WShape.arms,WShape.armsAll])
  (show(WTm.eq .res (.lit (.bool true))).value [] {args:=args,res:=some (.bool true),after:=args}=some (.bool (true==true))from w_eq_bool (w_res rfl) w_lit) rfl
theorem Zhy {l:OpenLaw}{n:Nat}{q:Program}{loose:List Str}{XP:(Str->Option Value)->Heap->Prop}{YP:World->Heap->Prop}{d:DefRec}
  (hn:l.most=some n) (hdf:d.params.defaults=[])
  (call:∀(w:World) (s₀ s₁:Shared) (mg mb:Str->Option Value) (fa:Addr) (o:Obj) (pm cd doc:Value) (a:Addr) (vs:List Value) (ns:List Int),
   Ground q loose [] XP w s₀ mg mb s₁.heap->YP w s₁.heap ->
   s₁.heap.get? fa=some o->o.data=.func (docDef d.name d.params d.body d.scope pm cd doc)->s₁.heap.CodeRec cd d.name->mg d.name=some (.ref fa) ->
   s₁.heap.get? a=some {cls:=.type "list",data:=.seq vs.toArray}->IntsAre vs ns->ns.length<=n->s₁.gens=#[] ->
   codeAny (model l.prog w) callerA (.call (.ref fa) ⟨[.ref a],[]⟩) (λr s'=>r=.ok (.ret (.bool true))/\OldK s₁.heap s'.heap/\s'.os=s₁.os/\AllBare s'.gens) s₁) :
  WalkO q loose XP YP l.row.toRowW d [] (λf vs=>PySem.call f vs):=by
 intro w s₀ s₁ mg mb G Y fa o pm cd doc dV kV ho hd hcd hD hmg hg args vals as hpre hlay hrd hwl hlo
 obtain rfl:dV=.none:=Dflts.none hD hdf
 obtain rfl:kV=.none:=Dflts.noKw hD
 obtain⟨a,vs,ns,rfl,rfl,hobj,hints,hlen⟩:=Zjz hn hpre hwl
 refine enter_call (codeAny_mono (call w s₀ s₁ mg mb fa o pm cd doc a vs ns G Y ho (fd_plain hd) hcd hmg hobj hints hlen hg) λr s' hq=>?_)
 obtain⟨rfl,h2,h3,h4⟩:=hq
 exact⟨.inl ⟨.bool true,.bool true,[],rfl,λ_=>rfl,.bool true,ZjA l _,λ_=>⟨List.Pairwise.nil,λ_ hm=>(nomatch hm)⟩⟩,h2,h3,h4⟩
end Att
namespace L2
open PySem PySem.Spec PyProof.Rows
theorem Zgr:∀{vs:List Value}{ns:List Int},IntsAre vs ns->Vals (ns.map V.int) vs
 |_,_,.nil=>.nil
 |_,_,.cons n t h=>.cons ⟨t,rfl⟩ (Zgr h)
noncomputable def Only (H:Hp):Prop:=∀b,H b=none\/∃o xs,H b=some (.frz o (.lst xs))
theorem Zkz {P:Program}{w:World}{K:PySem.W.Frag}{mg mb:Str->Option Value}{CX:CXT}{k:Nat}{fa a:Addr}{fd:FuncData}{x:Str}{sp:Sp}{s₁:Shared}{vs:List Value}{ns:List Int}
  (KX:K.In s₁.heap) (hns:s₁.heap.Ns mainGlobals mg) (hb:s₁.heap.Ns builtinsNs mb) (hbb:∀x:Str,x≠"__name__"->mb x=bootBuiltins x) (hlim:s₁.heap.NoLimit) (hg:s₁.gens=#[])
  (ha:s₁.heap.get? a=some {cls:=.type "list",data:=.seq vs.toArray}) (hi:IntsAre vs ns) (hl:ns.length<=sizeLine) (hr:Room k callerA)
  (F:∀base:Heap,K.In base->base.Ns mainGlobals mg->FnOk P w K mg base CX k fa fd [x] sp) (hbind:∀(s:Shared) (u:Value),BindsTo s fd ⟨[u],[]⟩ [(x,u)])
  (hsp:∀H:Hp,Only H->SqL K H a (ns.map V.int)->sp [.ref a] H (λv _=>v=.bl true) λ_ _ _=>False)
  (hCX:∀H e s',CX [] H s₁ (λ_ _ _=>False) e s'->False) :
  codeAny (model P w) callerA (.call (.ref fa) ⟨[.ref a],[]⟩) (λr s'=>r=.ok (.ret (.bool true))/\OldK s₁.heap s'.heap/\s'.os=s₁.os/\AllBare s'.gens) s₁:=by
 have rv:=Zgr hi
 have lenV:=hi.length
 -- from an abstract heap in which nothing but the script may be tracked
 have core:∀H:Hp,Only H->SqL K H a (ns.map V.int)->HOk P w H s₁.heap->(∀b,H b≠none->b=a)->(H a≠none->K.lookup a=none) ->
   codeAny (model P w) callerA (.call (.ref fa) ⟨[.ref a],[]⟩) (λr s'=>r=.ok (.ret (.bool true))/\OldK s₁.heap s'.heap/\s'.os=s₁.os/\AllBare s'.gens) s₁:=by
  intro H hO hS hok hA hK
  have base_of:∀{b:Addr}{o:Obj},s₁.heap.get? b=some o->H b=none->(ZgN s₁.heap H).get? b=some o:=λe n=>Zki e n
  have noA:∀{b:Addr}{o:Obj}{es:Array DictEntry}{ep:Nat},s₁.heap.get? b=some o->o.data=.dict es ep->H b=none:=λ{b o es ep} e d=>by
   cases q:H b with
   |none=>rfl
   |some u =>
    have e':b=a:=hA b (by rw[q];simp)
    subst e'
    rw[ha]at e;cases e
    have d':Data.seq vs.toArray _=Data.dict es ep:=d
    cases d'
  have nsK:∀{b:Addr}{m:Str->Option Value},s₁.heap.Ns b m->(ZgN s₁.heap H).Ns b m:=λ{b m} ⟨o,es,ep,e,d,r⟩=>⟨o,es,ep,base_of e (noA e d),d,r⟩
  have hKb:K.In (ZgN s₁.heap H):=λb o e=>base_of (KX b o e) (by
   cases q:H b with
   |none=>rfl
   |some u =>
    have e':b=a:=hA b (by rw[q];simp)
    subst e'
    rw[hK (by rw[q];simp)]at e;cases e)
  have hM:Mod K mg (ZgN s₁.heap H):=⟨hKb,nsK hns,⟨mb,nsK hb,hbb⟩,let ⟨mc,h1,h2⟩:=hlim;⟨mc,nsK h1,h2⟩⟩
  have e0:Env0 P w K mg (ZgN s₁.heap H) callerA [] s₁ H:=⟨rfl,hM,λb o e=>Zmk e,Nat.le_of_eq (Zjo _ _),trivial,λb hb=>absurd (show b∈([]:List Addr)from hb) (by simp),hok,.of_eq hg⟩
  refine codeAny_mono ((F _ hKb (nsK hns)).run callerA [] s₁ H ⟨[.ref a],[]⟩ [.ref a] [.ref a] _ _ hr e0 (hbind s₁ (.ref a)) (.cons rfl .nil) (hsp H hO hS)) λr s' h=>?_
  cases r with
  |error e=>exact(hCX H e s' h).elim
  |ok fl =>
   cases fl with
   |next=>exact False.elim h
   |brk=>exact False.elim h
   |cont=>exact False.elim h
   |ret u =>
    obtain⟨v,H',os,bare,un,hok',r',q⟩:=h
    have q':v=.bl true:=q
    subst q'
    obtain rfl:u=Value.bool true:=r'
    refine⟨rfl,OldK.of_keep λb o e=>?_,os,bare⟩
    cases q:H b with
    |none=>exact un.keep b o e q (by intro z;exact absurd (show b∈([]:List Addr)from z) (by simp)) (by simp)
    |some u =>
     rcases hO b with z|⟨ob,xs,z⟩
     ·rw[q]at z;cases z
     ·have z2:=un.frzs b ob _ z
      obtain⟨e1,_⟩:=hok b _ z
      obtain⟨e2,_⟩:=hok' b _ z2
      rw[e]at e1;cases e1
      exact e2
 cases hk:K.lookup a with
 |some o =>
  -- the script is one of the module's own objects
  have e:=KX a o hk
  rw[ha]at e
  cases e
  refine core (λ_=>none) (λ_=>.inl rfl) (.inr ⟨_,vs.toArray,_,hk,rfl,rfl,rfl,by rw[Yj,lenV];exact hl,by simpa using rv⟩) (λb u z=>by have z':(none:Option HO)=some u:=z;cases z') (λb z=>absurd rfl z) λz=>absurd rfl z
 |none =>
  refine core (λb=>if b=a then some (.frz {cls:=.type "list",data:=.seq vs.toArray} (.lst (ns.map V.int)))else none) (λb=>?_) (.inl (.inr ⟨{cls:=.type "list",data:=.seq vs.toArray},Yc rfl⟩)) (λb u z=>?_) (λb z=>?_) λ_=>hk
  ·by_cases hb:b=a
   ·exact .inr ⟨_,_,Yc hb⟩
   ·exact .inl (Ya hb)
  ·by_cases hb:b=a
   ·have z':=(Yc hb).symm.trans z
    cases z'
    subst hb
    exact⟨ha,by rw[Yf];exact hl,vs,_,rv,ha⟩
   ·have z':=(Ya hb).symm.trans z
    cases z'
  ·by_cases hb:b=a
   ·exact hb
   ·exact absurd (Ya hb) z
theorem Zms {l:PySem.W.OpenLaw}{n k:Nat}{q:Program}{loose:List Str}{XP:(Str->Option Value)->Heap->Prop}{YP:World->Heap->Prop}{d:DefRec}{K:Params->PySem.W.Frag}{CX:World->CXT}{sp:World->Sp}{x:Str}
  (hn:l.most=some n) (hn2:n<=sizeLine) (hdf:d.params.defaults=[]) (hr:Room k callerA)
  (hY:∀(w:World) (h:Heap),YP w h->(K w.params).In h)
  (F:∀(w:World) (mg:Str->Option Value) (fa:Addr) (h:Heap),(K w.params).In h->h.Ns mainGlobals mg->mg d.name=some (.ref fa) ->
   ∃fd:FuncData,(∀(s:Shared) (u:Value),BindsTo s fd ⟨[u],[]⟩ [(x,u)]) /\
    ∀base:Heap,(K w.params).In base->base.Ns mainGlobals mg->FnOk l.prog w (K w.params) mg base (CX w) k fa fd [x] (sp w))
  (hsp:∀(w:World) (H:Hp) (a:Addr) (ns:List Int),ns.length<=n->Only H->SqL (K w.params) H a (ns.map V.int)->sp w [.ref a] H (λv _=>v=.bl true) λ_ _ _=>False)
  (hCX:∀(w:World) (H:Hp) (s:Shared) (e:Value) (s':Shared),CX w [] H s (λ_ _ _=>False) e s'->False) :
  PySem.W.WalkO q loose XP YP l.row.toRowW d [] (λf vs=>PySem.call f vs):=by
 refine Att.Zhy hn hdf λw s₀ s₁ mg mb fa o pm cd doc a vs ns G Y ho hd hcd hmg hobj hints hlen hg=>?_
 have KX:=hY w _ Y
 obtain⟨fd,hb,hF⟩:=F w mg fa _ KX G.T.g hmg
 exact Zkz KX G.T.g G.T.b G.T.builtins G.T.nolimit hg hobj hints (Yh hlen hn2) hr hF hb (λH hO hS=>hsp w H a ns hlen hO hS) λH e s'=>hCX w H s₁ e s'
noncomputable def inClass (s:Stmt) (j:Nat):Stmt:=match s with
 |.ClassDef _ _ _ body _ _ _ _ _ _ _=>body.getD j (.Pass ⟨0,0,0,0⟩)
 |_=>.Pass ⟨0,0,0,0⟩
noncomputable def defArgs (s:Stmt):Arguments:=match s with
 |.FunctionDef _ a _ _ _ _ _ _ _ _=>a
 |_=>{posonlyargs:=[],args:=[],vararg:=none,kwonlyargs:=[],kw_defaults:=[],kwarg:=none,defaults:=[]}
noncomputable def defBody (s:Stmt):List Stmt:=match s with
 |.FunctionDef _ _ b _ _ _ _ _ _ _=>b
 |_=>[]
noncomputable def defScope (s:Stmt):Scope:=match s with
 |.FunctionDef _ _ _ _ _ _ sc _ _ _=>sc
 |_=>{kind:=.function,names:=[],isGenerator:=false,isCoroutine:=false}
noncomputable abbrev E0:XK:=λ_ _ _=>False
structure Fun (K:PySem.W.Frag) (x qual:Str) (st:Stmt) (f:Addr) (fd:FuncData):Prop where
 ex:∃(oc:Value) (od:Option Addr) (kV doc pm:Value) (an:Option Addr) (cdv ct:Value) (osl:Array (Option Value)),
  fd=PySem.W.fnOf x qual (defArgs st) (defBody st) (defScope st) .none kV doc pm an cdv ct/\K.lookup f=some ⟨oc,od,.func fd,osl⟩/\PySem.W.codeIn K cdv qual=true
 kp:PySem.W.keepIn K (.ref f)=true
section
variable {P:Program}{w:World}{K:PySem.W.Frag}{mg:Str->Option Value}{base:Heap}
theorem Fun.binds {x qual:Str}{st:Stmt}{f:Addr}{fd:FuncData}{ps:List Str} (F:Fun K x qual st f fd)
  (h:∀(kV doc pm:Value) (an:Option Addr) (cdv ct:Value) (us:List Value),us.length=ps.length->bindArgs (PySem.W.fnOf x qual (defArgs st) (defBody st) (defScope st) .none kV doc pm an cdv ct) ⟨us,[]⟩=pure (ps.zip us)):Binds K fd ps []:=by
 obtain⟨oc,od,kV,doc,pm,an,cdv,ct,osl,rfl,lk,hcd⟩:=F.ex
 exact .all (h kV doc pm an cdv ct)
theorem ZK {x qual:Str}{st:Stmt}{f:Addr}{oc:Value}{od an:Option Addr}{osl:Array (Option Value)}{kV doc pm cdv ct:Value} (l:K.lookup f=some ⟨oc,od,.func (PySem.W.fnOf x qual (defArgs st) (defBody st) (defScope st) .none kV doc pm an cdv ct),osl⟩)
  (c:PySem.W.codeIn K cdv qual=true) (k:PySem.W.keepIn K (.ref f)=true):Fun K x qual st f (PySem.W.fnOf x qual (defArgs st) (defBody st) (defScope st) .none kV doc pm an cdv ct):=⟨⟨oc,od,kV,doc,pm,an,cdv,ct,osl,rfl,l,c⟩,k⟩
end
theorem ZkA {A:Around}{k:Nat} (hr:Room k A):A.units+1<cLine:=Yw (Nat.add_le_add_left (by decide:1<=64) _) hr.units
section
variable {X:Cx}
theorem pv (i:Nat) {x:Str}{pos:Pos} (hN:X.N[i]?=some x:=by rfl) (hv:Vis X.env.scope x:=by first|exact Or.inl rfl|exact Or.inr (Or.inl rfl)|exact Or.inr (Or.inr rfl)) (hd:(x==("__debug__":Str))=false:=by decide)
  (hcd:(x==("__classdict__":Str))=false:=by decide):PE X (.Name x pos) (tVar i):=pe_var hN hv hd hcd
end
theorem iteT {A B:Prop} (h:A):if true=true then A else B:=by
 rw[Yc rfl]
 exact h
theorem Z3 {c A B:Prop} [Decidable c] (h1:c->A) (h2:¬ c->B):if c then A else B:=by
 by_cases h:c
 ·rw[Yc h]
  exact h1 h
 ·rw[Ya h]
  exact h2 h
noncomputable def Zf (H H':Hp):Prop:=∀b o,H b=some o->H' b=some o
theorem Zf.refl (H:Hp):Zf H H:=λ_ _ h=>h
theorem Zf.trans {H H1 H2:Hp} (a:Zf H H1) (b:Zf H1 H2):Zf H H2:=λc o h=>b c o (a c o h)
theorem Zf.free {H H':Hp} (e:Zf H H') {l:Addr} (h:H' l=Option.none):H l=Option.none:=by
 cases q:H l with
 |none=>rfl
 |some o =>
  rw[e l o q]at h
  cases h
theorem Zf.seq {K:PySem.W.Frag}{H H':Hp}{a:Addr}{xs:List V} (e:Zf H H') (h:SqL K H a xs):SqL K H' a xs:=by
 rcases h with(h|⟨o,h⟩)|h
 ·exact .inl (.inl (e _ _ h))
 ·exact .inl (.inr ⟨o,e _ _ h⟩)
 ·exact .inr h
theorem ZdI {env:Env}:∀(names:List (Str×NameKind)) (cs0:List (Str×Addr)),(∀y∈names,y.2=.free->∃c,env.cells.lookup y.1=some c) ->
  ∃cl,(forIn names cs0 (λ(x:Str×NameKind) r=>(do
   match x with
   |(name,kind)=>if (kind==NameKind.free)=true then do let a <-cellOf env name;pure (ForInStep.yield ((name,a)::r))else pure (ForInStep.yield r)):_->_->Sem (ForInStep (List (Str×Addr)))))=pure cl /\
   (∀p∈cl,p∈cs0\/env.cells.lookup p.1=some p.2)/\(∀p∈cs0,p∈cl)/\(∀y∈names,y.2=.free->∃c,(y.1,c)∈cl)
 |[],cs0,_=>⟨cs0,rfl,λp h=>.inl h,λp h=>h,λy h=>by cases h⟩
 |(n,k)::r,cs0,h=>by
  by_cases hk:k=.free
  ·subst hk
   obtain⟨c,hc⟩:=h (n,.free) (.head _) rfl
   obtain⟨cl,e,h1,h2,h3⟩:=ZdI r ((n,c)::cs0) λy hy=>h y (.tail _ hy)
   refine⟨cl,?_,λp hp=>?_,λp hp=>h2 p (.tail _ hp),λy hy hf=>?_⟩
   ·rw[List.forIn_cons]
    have e1:cellOf env n=pure c:=by unfold cellOf;rw[hc]
    simp only[beq_self_eq_true,if_true,e1,pure_bind]
    exact e
   ·rcases h1 p hp with q|q
    ·rcases Yl.mp q with q|q
     ·subst q;exact .inr hc
     ·exact .inl q
    ·exact .inr q
   ·rcases Yl.mp hy with q|q
    ·subst q;exact⟨c,h2 _ (.head _)⟩
    ·exact h3 y q hf
  ·obtain⟨cl,e,h1,h2,h3⟩:=ZdI r cs0 λy hy=>h y (.tail _ hy)
   refine⟨cl,?_,h1,h2,λy hy hf=>?_⟩
   ·rw[List.forIn_cons]
    have e1:(k==NameKind.free)=false:=by cases k<;>first|rfl|exact absurd rfl hk
    simp only[e1,Bool.false_eq_true,if_false,pure_bind]
    exact e
   ·rcases Yl.mp hy with q|q
    ·subst q;exact absurd hf hk
    ·exact h3 y q hf
theorem ZaB {env:Env}:∀{names:List (Str×NameKind)}{x:Str}{k:NameKind},(names.map λ(n,k)=>if (k==NameKind.free&&env.scope.kind==.function&&env.kindOf n==some .cell)then (n,NameKind.cell)else (n,k)).lookup x=some k ->
  ∃k',names.lookup x=some k'/\(k=k'\/(k'=.free/\k=.cell))
 |[],_,_,h=>by simp at h
 |(n,k0)::r,x,k,h=>by
  by_cases hx:x=n
  ·subst hx
   refine⟨k0,by simp,?_⟩
   simp only[YB]at h
   split at h
   ·rename_i hc
    simp only[Bool.and_eq_true,beq_iff_eq]at hc
    simp only[List.lookup_cons_self,Option.some.injEq]at h
    exact .inr ⟨hc.1.1,h.symm⟩
   ·simp only[List.lookup_cons_self,Option.some.injEq]at h
    exact .inl h.symm
  ·have hb:(x==n)=false:=by simpa using hx
   simp only[YB]at h
   have e2:∀k1,((n,k1)::r).lookup x=r.lookup x:=λk1=>by simp[List.lookup_cons,hb]
   split at h<;>(simp only[List.lookup_cons,hb]at h;obtain⟨k',h1,h2⟩:=ZaB h;exact⟨k',by rw[e2];exact h1,h2⟩)
noncomputable def ZkB (X:Cx) (Nc:List Str) (scope:Scope) (cl:List (Str×Addr)) (C:Addr) (s2:Shared) (H2:Hp) (fp:List Addr):Cx where
 prog:=X.prog
 w:=X.w
 K:=X.K
 mg:=X.mg
 base:=X.base
 A:=X.A
 N:=Nc
 s₀:=s2
 H₀:=H2
 env:=compEnvC scope cl C X.env
 outer:=X.stack
 stack:=X.stack
 ex:=fp
 fn:=λ_=>false
 calm:=X.calm
 pn:=[]
 xe:=λ_ _=>False
noncomputable def iniC (js:List (Option Nat)) (σ:St):St:=js.map λj=>match j with
 |none=>none
 |some i=>(σ[i]?).join
noncomputable def ZaM (N Nc:List Str) (scope:Scope):List (Option Nat)->Nat->Bool
 |[],i=>i==Nc.length
 |none::r,i=>ZaM N Nc scope r (i+1)
 |some j::r,i=>(match Nc[i]?,N[j]? with
  |some x,some y=>x==y&&scope.names.lookup x==some .free
  |_,_=>false)&&ZaM N Nc scope r (i+1)
theorem ZdJ {N Nc:List Str}{scope:Scope}:∀{js:List (Option Nat)}{i:Nat},ZaM N Nc scope js i=true->i+js.length=Nc.length
 |[],i,h=>by simpa[ZaM]using h
 |none::r,i,h=>by
  have:=ZdJ (js:=r) (i:=i+1) (by simpa[ZaM]using h)
  simp only[Yn];omega
 |some j::r,i,h=>by
  simp only[ZaM,Bool.and_eq_true]at h
  have:=ZdJ (js:=r) (i:=i+1) h.2
  simp only[Yn];omega
theorem Zes {N Nc:List Str}{scope:Scope}:∀{js:List (Option Nat)}{i k j:Nat},ZaM N Nc scope js i=true->js[k]?=some (some j)->∃x,Nc[i+k]?=some x/\N[j]?=some x/\scope.names.lookup x=some .free
 |[],i,k,j,h,e=>by simp at e
 |none::r,i,0,j,h,e=>by simp at e
 |none::r,i,k+1,j,h,e=>by
  obtain⟨x,h1,h2,h3⟩:=Zes (js:=r) (i:=i+1) (k:=k) (j:=j) (by simpa[ZaM]using h) (by simpa using e)
  exact⟨x,by rw[<-h1];congr 1;omega,h2,h3⟩
 |some j0::r,i,0,j,h,e=>by
  simp only[ZaM,Bool.and_eq_true]at h
  simp only[List.getElem?_cons_zero,Option.some.injEq]at e
  subst e
  cases e1:Nc[i]? with
  |none=>rw[e1]at h;simp at h
  |some x =>
   cases e2:N[j0]? with
   |none=>rw[e1,e2]at h;simp at h
   |some y =>
    rw[e1,e2]at h
    simp only[Bool.and_eq_true,beq_iff_eq]at h
    exact⟨x,by simpa using e1,by rw[h.1.1],h.1.2⟩
 |some j0::r,i,k+1,j,h,e=>by
  simp only[ZaM,Bool.and_eq_true]at h
  obtain⟨x,h1,h2,h3⟩:=Zes (js:=r) (i:=i+1) (k:=k) (j:=j) h.2 (by simpa using e)
  exact⟨x,by rw[<-h1];congr 1;omega,h2,h3⟩
section
variable {X:Cx}
theorem lookup_mem {names:List (Str×NameKind)}{x:Str}{k:NameKind} (h:names.lookup x=some k):(x,k)∈names:=PySem.mem_of_lookup h
theorem ZcZ {prog:Program}{w:World}{A:Around}{R:Result->Shared->Prop}{s:Shared}{elt target iter:Expr}{ifs:List Expr}{scope:Scope}{pos:Pos}{it acc:Value}{env:Env} (I:Nat->Shared->Prop)
  (turn:∀n s,I n s->wpAny (model prog w) A (pyNext it) (λr s₁=>match r with
   |none=>R (.ok .next) s₁
   |some v=>wpAny (model prog w) A (letOwnedTupleGo target it v) (λ_ s₁=>wpAny (model prog w) A (assign target env v) (λ_ s₂ =>
     wpAny (model prog w) A (forIn ifs true λc r=>if r=true then do let ok <-isTrue c env (eval c env);pure (ForInStep.yield ok)else pure (ForInStep.yield r)) (λok s₃ =>
      if ok=true then wpAny (model prog w) A (eval elt env) (λx s₄ =>
       wpAny (model prog w) A (call (.builtin "list.append") [acc,x]) (λ_ s₅=>∃m,m<n/\I m s₅) (λ_ _=>False) s₄) (λ_ _=>False) s₃
      else ∃m,m<n/\I m s₃) (λ_ _=>False) s₂) (λ_ _=>False) s₁) (λ_ _=>False) s₁) (λ_ _=>False) s)
  (n:Nat) (h:I n s) :
  codeAny (model prog w) A (.compLoop (.ListComp elt [⟨target,iter,ifs,0⟩] scope pos) 0 it acc env) R s:=by
 refine codeAny_loop rfl I (λn s hI=>?_) n h
 show wpAny _ A ((compTurn (.ListComp elt [⟨target,iter,ifs,0⟩] scope pos) 0 it acc env).onRaise (λx=>do noteFrame x env;theTreesLotGoes x)) _ _ s
 refine wpAny_noted ?_
 rw[compTurn_list]
 refine Yb (wpAny_standAt (Yb (YH (turn n s hI) (λr s₁ h₁=>?_) λ_ _ h'=>h'.elim)))
 cases r with
 |none=>exact Yg h₁
 |some v =>
  refine Yb (YH h₁ (λ_ s₁' h₁=>?_) λ_ _ h'=>h'.elim)
  refine Yb (YH h₁ (λ_ s₂ h₂=>Yb (YH h₂ (λok s₃ h₃=>?_) λ_ _ h'=>h'.elim)) λ_ _ h'=>h'.elim)
  cases ok with
  |false=>exact Yg ⟨rfl,h₃⟩
  |true =>
   exact Yb (Yb (YH h₃ (λx s₄ h₄=>Yb (YH h₄ (λ_ s₅ h₅=>Yg (Yg ⟨rfl,h₅⟩)) λ_ _ h'=>h'.elim)) λ_ _ h'=>h'.elim))
noncomputable def ZjB (X:Cx) (ifs:List Expr) (t:TT):Prop :=
 ∀(pins:List (Addr×Obj)) (s:Shared) (σ:St) (H:Hp) (Q:Bool->Hp->Prop),Inv X pins σ H s->t σ H Q ->
  wpAny (model X.prog X.w) X.A (forIn ifs true λc r=>if r=true then do let ok <-isTrue c X.env (eval c X.env);pure (ForInStep.yield ok)else pure (ForInStep.yield r)) (TP X pins σ Q) X.xe s
noncomputable def tYes:TT:=λ_ H Q=>Q true H
theorem Zax:ZjB X [] tYes:=λpins s σ H Q I h=>wpAny_tests_nil ⟨H,I,h⟩
theorem Zd0 {c:Expr}{t:TT} (h:PT X c t):ZjB X [c] t:=λpins s σ H Q I hq=>wpAny_tests_one (h pins s σ H Q I hq)
noncomputable def ZkC (L:List Nat) (σ σ':St):Prop:=σ'.length=σ.length/\∀k,k∉L->σ'[k]?=σ[k]?
noncomputable def ZiW (g:TG) (L:List Nat):Prop:=∀v σ H (Q Q':St->Hp->Prop),(∀σ' H',ZkC L σ σ'->Q σ' H'->Q' σ' H')->g v σ H Q->g v σ H Q'
theorem ZG {i:Nat}:ZiW (gName i) [i]:=λv σ H Q Q' hq h=>hq _ _ ⟨by simp,λk hk=>by
 rw[List.getElem?_set_ne]
 intro z;subst z;exact hk (by simp)⟩ h
noncomputable def ZiX (wi:TI) (g:TG) (tt:TT) (te:TE) (js:List (Option Nat)):TE:=fun σ H Q=>wi σ H λJ H1=>∃W:Nat->Nat->List V->Hp->Prop,(∃m,W 0 m [] H1)/\∀i m acc H,W i m acc H ->
 (J.stop i H/\acc.length<=sizeLine/\∀p,H p=none->Q (.ref p) (upd H p (.lst acc))) \/
 (J.go i H/\acc.length<sizeLine/\∀x H',J.yld i H x H'->g x (iniC js σ) H' fun σ2 H2=>tt σ2 H2 λb H3=>if b=true then te σ2 H3 λv H4=>∃m',m'<m/\W (i+1) m' (acc++[v]) H4 else ∃m',m'<m/\W (i+1) m' acc H3)
theorem ZgX {C:Addr}{h:Heap}:Heap.SameBut C h h:=by
 first|exact Heap.SameBut.refl|exact⟨rfl,λ_ _=>rfl⟩
end
end L2
namespace L2
open PySem PySem.Spec PyProof.Rows PySem.W PySem.Builtin.ObjectAttr PySem.Builtin.Getset_descriptor
noncomputable def Zhz (x C:Addr) (h:Heap):Prop:=∃o,h.get? x=some o/\o.cls=.ref C
structure ExK (K:Frag) (C:Addr):Prop where
 dk:hasDictIn K C=true
 ga:findIn K (.ref C) "__getattribute__"=some (some (.builtin "BaseException.__getattribute__"))
 gt:findIn K (.ref C) "__getattr__"=some none
 cl:findIn K (.ref C) "__class__"=some (some (.builtin "object.__class__"))
 gg:specialIn K (.builtin "object.__class__") "__get__"=some (some (.builtin "getset_descriptor.__get__"))
 tk:takesIn K (.builtin "object.__class__")=some true
 mo:mroIn K C (.type "object")=some true
 mb:mroIn K C (.type "BaseException")=some true
section
variable {K:Frag}{x C:Addr}
theorem Zhz.type {M:Model}{h:Heap} (I:Zhz x C h):Looks M h (typeOf (.ref x)) (.ref C):=by
 obtain⟨o,e,c⟩:=I
 exact c▸(Looks.ld e).andThen .now
theorem ZkD {M:Model}{h:Heap} (X:K.In h) (Z:ExK K C):Looks M h (find (.ref x) (.ref C) "__class__") (.bind (.builtin "getset_descriptor.__get__") (.builtin "object.__class__")):=by
 have L3:=looks_takesIn (M:=M) X Z.tk
 exact(looks_findIn (M:=M) X Z.cl).andThen ((looks_specialIn X Z.gg).andThen
  ((show Looks M h (dataDescriptor? (some (.builtin "object.__class__")) (some (.builtin "getset_descriptor.__get__"))) (some (.builtin "getset_descriptor.__get__",.builtin "object.__class__"))from L3.andThen .now).andThen (Looks.tag .now)))
theorem Zmt {prog:Program}{w:World}{A:Around}{R:Result->Shared->Prop}{s:Shared}{tp:Value} (X:K.In s.heap) (I:Zhz x C s.heap) (Z:ExK K C) (hR:R (.ok (.ret (.ref C))) s) :
  codeAny (model prog w) A (.call (.builtin "getset_descriptor.__get__") ⟨[.builtin "object.__class__",.ref x,tp],[]⟩) R s:=by
 obtain⟨hp,gn,dw,tk,os⟩:=s
 have L0:=I.type (M:=model prog w)
 have L1:=looks_mroIn (M:=model prog w) X Z.mo
 refine codeAny_call_builtin KF.slot_gs.plain KF.entry_gs (KF.slot_gs.check _ _ _ _ _ _ _ _ KF.type_class (KF.args_gs _ _ _) ?_)
 unfold Builtin.«getset_descriptor.__get__» descrGet;rw[dga_obj];refine Yb (Yg ?_)
 unfold descrGetter descrCheckInstance descrNameAndClass isInstance;simp only[KF.owner_class]
 repeat lk
 refine⟨Code.quiet_builtin _ (by decide +kernel),codeAny_builtin KF.entry_class ?_⟩;unfold Builtin.«object.__class__» shownTypeOf
 repeat lk
 exact hR
theorem ZjC {prog:Program}{w:World}{A:Around}{E:Value->Shared->Prop}{s:Shared}{tk:Tok}{Q:Fin->Shared->Prop} (X:K.In s.heap) (I:Zhz x C s.heap) (Z:ExK K C) (hQ:Q (.done (.ret (.ref C))) s) :
  wpAny (model prog w) A (Builtin.«object.__getattribute__» ⟨[.ref x,.str "__class__" tk],[]⟩) Q E s:=by
 obtain⟨hp,gn,dw,t,os⟩:=s
 have L0:=I.type (M:=model prog w)
 have L2:=ZkD (M:=model prog w) (x:=x) X Z
 unfold Builtin.«object.__getattribute__»
 refine Yb (Yg (Yb (Yg (Yb (L0.at (Yb (L2.at ?_)))))))
 show wpAny _ _ (holding _ (call _ _) >>= ret) _ _ _
 exact Yb (wpAny_holding (wpAny_call (Zmt (s:=⟨hp,gn,dw,t,os⟩) X I Z (Yg hQ))))
theorem ZjD {M:Model}{A:Around}{E:Value->Shared->Prop}{s:Shared}{nameV:Value}{Q:Unit->Shared->Prop} (X:K.In s.heap) (I:Zhz x C s.heap) (Z:ExK K C) (hq:Q () s) :
  wpAny M A (checkBuiltinCall "BaseException.__getattribute__" ⟨[.ref x,nameV],[]⟩) Q E s:=by
 obtain⟨hp,gn,dw,t,os⟩:=s
 have hk:builtinKind "BaseException.__getattribute__"=some .slot:=by decide +kernel
 have hsplit:splitId "BaseException.__getattribute__"=some ("BaseException","__getattribute__"):=by decide +kernel
 have L0:=I.type (M:=M)
 have L1:=looks_mroIn (M:=M) X Z.mb
 have ha:=F.args_bexc_ga (.ref x) nameV
 simp only[checkBuiltinCall,hk,hsplit]
 refine Yb ?_
 unfold isInstance
 refine Yb (L0.at (L1.at ?_))
 repeat (first|assumption|wp_step)
theorem ZjE {prog:Program}{w:World}{A:Around}{E:Value->Shared->Prop}{s:Shared}{Q:Option Value->Shared->Prop} (X:K.In s.heap) (I:Zhz x C s.heap) (Z:ExK K C) (hQ:Q (some (.ref C)) {s with toks:=s.toks+1}) :
  wpAny (model prog w) A (getAttr? (.ref x) "__class__") Q E s:=by
 obtain⟨hp,gn,dw,tk,os⟩:=s
 have L0:=I.type (M:=model prog w)
 have L1:=looks_findIn (M:=model prog w) X Z.ga
 have L3:=looks_findIn (M:=model prog w) X Z.gt
 have hb:=(F.attrBase_ValueError.ga).bind (.ref x)
 unfold getAttr? getAttrBy? getAttrBy;refine Yb (wpAny_mkText (Yb (wpAny_attempt (wpAny_holding (Yb (L0.at (Yb (L1.at ?_))))))))
 show wpAny _ _ (getAttrByItsOwn _ _ _ _ _ _) _ _ _
 unfold getAttrByItsOwn hookBefore
 refine Yb (L3.at ?_)
 refine Yb (wpAny_attempt (wpAny_holding ?_))
 unfold callGetattribute
 show wpAny _ _ (boundAndCalled _ _ _) _ _ _
 unfold boundAndCalled
 rw[hb]
 refine Yb (Yg ?_)
 refine wpAny_call ?_
 refine codeAny_call_builtin F.attrBase_ValueError.ga.plain F.entry_bexc_ga (ZjD (s:=⟨hp,gn,dw,tk+1,os⟩) X I Z (ZjC (s:=⟨hp,gn,dw,tk+1,os⟩) X I Z ?_))
 exact handed_on rfl (Yg hQ)
theorem Zmu (Z:ExK K C):KitX K (.ref x) (.ref C) (Zhz x C) where
 ty:=λ_ _ _ I=>I.type
 it:=λ_ _ X _=>by
  obtain⟨cdD,hcD,_⟩:=any_some Z.dk
  unfold clsIn at hcD
  split at hcD
  ·rename_i c' d' cd' sl' ho
   intro A' Q' E' s' k q
   unfold isType loadHead;exact Yb (wpAny_loadPart (k _ _ (X _ _ ho)) (Yg q))
  ·cases hcD
 ne:=λh tp dd its n sl X htp=>by
  obtain⟨cdD,hcD,_⟩:=any_some Z.dk
  refine Bool.eq_false_iff.mpr λq=>?_
  have e:C=tp:=Value.ref.inj (beq_iff_eq.mp q);subst e
  unfold clsIn at hcD
  split at hcD
  ·rename_i c' d' cd' sl' ho
   have z:=(X _ _ ho).symm.trans htp;cases z
  ·cases hcD
 ca:=λX I k=>ZjE X I Z k
end
noncomputable def ExcO (e C:Addr):HO:=.ext (Zhz e C)
noncomputable def tyIs (K:Frag) (H:Hp) (x:V) (c:Value) (b:Bool):Prop :=
 (∃t,TyOf K H x t/\kitOne K t c=some b)\/∃e C,x=.ref e/\H e=some (ExcO e C)/\ExK K C/\kitOne K (.ref C) c=some b
noncomputable def cOf:V->Option Value
 |.ref a=>some (.ref a)
 |.ty n=>some (.type n)
 |_=>none
section
variable {X:Cx}
noncomputable def rIsi (K:Frag):List V->Hp->VK->Prop:=λxs H Q=>∃x v c b,xs=[x,v]/\cOf v=some c/\tyIs K H x c b/\Q (.bl b) H
theorem ZkE:Zbb X (.builtin "isinstance") (rIsi X.K):=by
 intro pins s σ H xs us Q I r h
 obtain⟨x,v,c,b,rfl,hc,ht,q⟩:=h
 obtain⟨u,u2,rfl,ru,ru2⟩:=r.two
 have e2:u2=c:=by
  cases v with
  |ref a=>have:=(show u2=Value.ref a from ru2);cases hc;exact this
  |ty n=>have:=(show u2=Value.type n from ru2);cases hc;exact this
  |_=>cases hc
 subst e2
 have fin:∀tk,EP X pins σ Q (.bool b) {s with toks:=tk}:=λtk=>⟨.bl b,H,I.tok tk,rfl,q⟩
 rcases ht with⟨t,ty,e⟩|⟨e,C,rfl,hH,Z,e1⟩
 ·exact Zjw I ru ty e fin
 ·cases(show u=Value.ref e from ru)
  obtain⟨p,_,_⟩:=(show ZJ X.prog X.w H s.heap e (ExcO e C)from I.hok e _ hH)
  exact kia_one (Zmu Z) I.kIn p e1 (λz=>nomatch z) fin
end
end L2
namespace L2
open PySem PySem.Spec PyProof.Rows
structure Fly (P:Program) (w:World) (outer:List Env) (H:Hp) (s:Shared) (H':Hp) (B:Heap) (e:Addr) (C a0:Value) (s':Shared):Prop where
 os:s'.os=s.os
 bare:AllBare s'.gens
 fly:Heap.FlyingW B outer e C a0 s'.heap
 hok:HOk P w H' B
 keep:∀b o,s.heap.get? b=some o->H b=none->b∉frs outer->B.get? b=some o
 slot:∀b o,s.heap.get? b=some o->b∈frs outer->(∀vs,o.data≠.fields vs)->∃sl,s'.heap.get? b=some {o with slots:=sl}
 free:∀b o,s.heap.get? b=some o->H b=none->H' b=none
 there:∀b o,s.heap.get? b=some o->b∉frs outer->∃o',B.get? b=some o'
 tups:∀b xs,H b=some (.tup xs)->H' b=some (.tup xs)
 frzs:∀b o u,H b=some (.frz o u)->H' b=some (.frz o u)
 tbls:∀b ps,H b=some (.tbl ps)->∃more,H' b=some (.tbl (ps++more))
noncomputable def CXE (P:Program) (w:World):CXT:=λouter H s E ev s'=>∃e C a0 H' B,ev=.ref e/\Fly P w outer H s H' B e C a0 s'/\E C none H'
theorem Zr {P:Program}{w:World}{X:Cx}:Passes (CXE P w) X E0:=λ_ _ _ _ _ _ _ ⟨_,_,_,_,_,_,_,z⟩=>z.elim
section
variable {P:Program}{w:World}{K:PySem.W.Frag}{mg:Str->Option Value}{base:Heap}{N:List Str}{qual:Str}{scope:Scope}{f:Addr}{cd:Value}{A:Around}{outer:List Env}{s:Shared}{H:Hp}{E:XK}
theorem ZgY {pins:List (Addr×Obj)}{σ:St}{H1:Hp}{s1:Shared}{h':Heap}{e:Addr}{C:Value}{vs:List Value} (I:Inv (Zer (CXE P w) P w K mg base N qual scope f cd A outer s H E) pins σ H1 s1)
  (hx:Heap.MadeExcOf s1.heap h' e C vs) (hE:E C none H1):(Zer (CXE P w) P w K mg base N qual scope f cd A outer s H E).xe (.ref e) {s1 with heap:=h'}:=by
 let env:=envOfC qual scope s.heap.objs.size f cd
 let B:=PySem.W.hideAll s1.heap (frs (env::outer))
 have hin:∀en∈(env::outer),∀b,en.frame=some b->b∈frs (env::outer):=λen he b hb=>List.mem_filterMap.mpr ⟨en,he,hb⟩
 have st:s1.heap.FunFrames base (env::outer):=I.stack
 have loc:∀b,b∈frs (env::outer)->b=s.heap.objs.size\/b∈frs outer:=λb hb=>Yl.mp (I.Zem b hb)
 have old:∀b o,s.heap.get? b=some o->b∉frs outer->b∉frs (env::outer):=λb o q nb hb=>by
  rcases loc b hb with z|z
  ·exact absurd (Yi q) (by rw[z];exact YE _)
  ·exact nb z
 have un:Un (frs outer) [] H H1 s.heap s1.heap:=I.base
 have hokB:HOk P w H1 B:=λa o q=>by
  have nf:∀b o,H1 b=some o->b∉frs (env::outer):=λb o z hb=>by
   have:=I.ZgO b hb
   rw[this]at z;cases z
  refine(I.hok a o q).ZgM (λb u hb z=>?_) (λ_ z=>z) (λ_ _ z=>z) λ_ _ _ z=>z
  rcases hb with hb|hb
  ·rw[hb]at z⊢;exact PySem.W.hideAll_get _ z (nf a o q)
  ·exact PySem.W.hideAll_get _ z (nf b _ hb)
 refine wpAny_leaves_madeW (base:=B) (h:=s1.heap) (env:=env) (outer:=outer) (L:=s.heap.objs.size) I.ok.frames rfl (λb o q=>PySem.W.of_hideAll _ q) (PySem.W.funFrames_hide st hin) hx λh2 t x1 x2 x3 x4=>?_
 refine⟨e,C,.ref t,H1,B,rfl,⟨I.os,I.bare,x1,hokB,λb o q n nb=>?_,λb o q hb hd=>?_,λb o q n=>un.free b o q n (by simp),λb o q nb=>?_,un.tups,un.frzs,un.tbls⟩,hE⟩
 ·exact PySem.W.hideAll_get _ (un.keep b o q n nb (by simp)) (old b o q nb)
 ·obtain⟨sl,z⟩:=un.slot b o q (I.ok.frf b hb) hb (by simp)
  obtain⟨sl2,z2⟩:=x4 b _ (hx.keeps _ _ z) hd
  exact⟨sl2,z2⟩
 ·obtain⟨o',z⟩:=un.there b o q (by simp)
  exact⟨o',PySem.W.hideAll_get _ z (old b o q nb)⟩
theorem ZiY:Passes (CXE P w) (Zer (CXE P w) P w K mg base N qual scope f cd A outer s H E) E:=by
 intro pins σ H1 s1 ev s2 I h
 obtain⟨e,C,a0,H',B,rfl,F,hE⟩:=h
 let env:=envOfC qual scope s.heap.objs.size f cd
 have un:Un (frs outer) [] H H1 s.heap s1.heap:=I.base
 have loc:∀b,b∈frs (env::outer)->b=s.heap.objs.size\/b∈frs outer:=λb hb=>Yl.mp (I.Zem b hb)
 have old:∀b o,s.heap.get? b=some o->b∉frs outer->b∉frs (env::outer):=λb o q nb hb=>by
  rcases loc b hb with z|z
  ·exact absurd (Yi q) (by rw[z];exact YE _)
  ·exact nb z
 refine wpAny_leaves_onW (env:=env) (outer:=outer) (L:=s.heap.objs.size) I.ok.frames rfl F.fly λh2 x1 x2=>?_
 refine⟨e,C,a0,H',B,rfl,⟨F.os.trans I.os,F.bare,x1,F.hok,λb o q n nb=>F.keep b o (un.keep b o q n nb (by simp)) (un.free b o q n (by simp)) (old b o q nb),λb o q hb hd=>?_,λb o q n=>?_,λb o q nb=>?_,λb xs z=>F.tups b xs (un.tups b xs z),λb o u z=>F.frzs b o u (un.frzs b o u z),λb ps z=>?_⟩,hE⟩
 ·obtain⟨sl,z⟩:=un.slot b o q (I.ok.frf b hb) hb (by simp)
  obtain⟨en,he,hf⟩:=List.mem_filterMap.mp hb
  obtain⟨sl2,z2⟩:=F.slot b _ z (List.mem_filterMap.mpr ⟨en,.tail _ he,hf⟩) hd
  obtain⟨sl3,z3⟩:=x2 b _ z2 hd
  exact⟨sl3,z3⟩
 ·by_cases hb:b∈frs outer
  ·have h1:H1 b=none:=un.free b o q n (by simp)
   obtain⟨sl,z⟩:=un.slot b o q n hb (by simp)
   exact F.free b _ z h1
  ·exact F.free b o (un.keep b o q n hb (by simp)) (un.free b o q n (by simp))
 ·obtain⟨o',z⟩:=un.there b o q (by simp)
  exact F.there b o' z (old b o q nb)
 ·obtain⟨m1,z1⟩:=un.tbls b ps z
  obtain⟨m2,z2⟩:=F.tbls b _ z1
  exact⟨m1++m2,by rw[<-Array.append_assoc];exact z2⟩
end
abbrev bmV:List Value:=[.type "ValueError",.type "Exception",.type "BaseException",.type "object"]
abbrev newV:String:="ValueError.__new__"
theorem own_mk {K:PySem.W.Frag}{h:Heap}{mg:Str->Option Value}{x:Str}{C:Addr} (X:K.In h) (hm:mg x=some (.ref C)) (q:PySem.W.excIn K C bmV newV=true):OwnCls x C bmV newV mg h:=by
 refine⟨hm,?_⟩
 unfold PySem.W.excIn at q;split at q
 ·rename_i dd cd sl ho
  split at q
  ·rename_i C' bm k0 k1 k2 k3 n k5 hmm hs
   simp only[Bool.and_eq_true,beq_iff_eq,Bool.not_eq_true']at q;obtain⟨⟨⟨⟨⟨rfl,rfl⟩,hdel⟩,ht⟩,hok⟩,hni⟩:=q
   obtain⟨nm,bs,mro,ns,qn,hd,sn,sub,ab,col,del⟩:=cd;dsimp only at hmm hdel hok hni;subst hmm hdel
   have hsl:sl=#[k0,k1,k2,k3,some (.builtin newV),k5]:=by obtain⟨l⟩:=sl;simp only at hs;rw[hs]
   subst hsl;exact⟨bm,ns,nm,qn,bs,hd,sn,sub,ab,col,dd,k0,k1,k2,k3,k5,_,X _ _ ho,.of_isNs (PySem.W.isNs_of_in X hok),PySem.W.nsMap_none_of_in X hok hni,PySem.W.tail_of_in X ht⟩
  ·cases q
 ·cases q
section
variable {X:Cx}
noncomputable def tRaise (C:Addr) (E:XK) (t:TA):TS:=λ_ σ H=>t σ H λvs H1=>vs.length<=sizeLine/\E (.ref C) none H1
theorem Zfr {x:Str}{C:Addr}{np cpos pos:Pos}{e0:Expr}{es:List Expr}{t:TA}{E:XK} (hc:X.calm=true) (hg:Gl X x) (hm:X.mg x=some (.ref C)) (q:PySem.W.excIn X.K C bmV newV=true) (ha:PA X (e0::es) t)
  (hx:∀pins σ H s h' e vs,Inv X pins σ H s->Heap.MadeExcOf s.heap h' e (.ref C) vs->E (.ref C) none H->X.xe (.ref e) {s with heap:=h'})
  (he:starEach (e0::es) X.env=(false,eval e0 X.env)::starEach es X.env:=by rfl) (hpl:(backTo cpos (starEach es X.env)).any (·.1)=false:=by rfl) (hd:(x==("__debug__":Str))=false:=by decide) :
  PS X (.Raise (some (.Call (.Name x np) (e0::es) [] cpos)) none pos) (tRaise C E t):=by
 intro pins s σ H D I h
 obtain⟨tl,Nn,nm,qn,bs,hdct,sn,sub,ab,col,dd,k0,k1,k2,k3,k5,mN,hC,hN,hni,T⟩:=(own_mk (x:=x) I.mod.kin hm q).obj
 refine wpAny_Raise_call_subT (C:=C) (nm:=nm) (q:=qn) (N:=Nn) (bs:=bs) (bm:=tl) (hdct:=hdct) (sn:=sn) (sub:=sub) (ab:=ab) (col:=col) (dd:=dd) (k0:=k0) (k1:=k1) (k2:=k2) (k3:=k3) (k5:=k5)
  PySem.F.excBase_ValueError (mN:=mN) (T.hasType PySem.F.excBase_ValueError.hasBase) (I.ok.hd hc) (by rw[he];show(false||(backTo cpos (starEach es X.env)).any (·.1))=false;rw[hpl];rfl) hni (Zff I hg hm ⟨rfl,?_⟩ hd)
 have h2:=ha cpos pins s σ H _ I h
 rw[he]at h2⊢
 exact Calls.evalArgs_plain (thn h2 λus s2 ⟨vs,H2,I2,r,z,q2⟩=>⟨rfl,by rw[<-r.length];exact z,I2.bk _ _ hC,hN.keeps I2.bk,T.keeps I2.bk,λh' e hm'=>hx pins σ H2 s2 h' e us I2 hm' q2⟩)
end
section
variable {P:Program}{w:World}{K:PySem.W.Frag}{mg:Str->Option Value}{base:Heap}
theorem Fun.okX {x qual:Str}{st:Stmt}{f:Addr}{fd:FuncData}{N ps:List Str}{k:Nat}{sp:Sp} (F:Fun K x qual st f fd) (S:FnScope N ps (defScope st)) (len:∀vs H Q E,sp vs H Q E->vs.length=ps.length)
  (hbody:∀(cdv:Value) (A:Around) (outer:List Env) (s:Shared) (H:Hp) (vs:List V) (Q:VK) (E:XK),Room k (A.deeper (envOfC qual (defScope st) s.heap.objs.size f cdv))->sp vs H Q E ->
   ∃t,PSs (Zer (CXE P w) P w K mg base N qual (defScope st) f cdv A outer s H E) (defBody st) t/\t {nx:=λ_ H'=>Q .non H',rt:=Q} (start N vs) H):FnOk P w K mg base (CXE P w) (k+1) f fd ps sp:=by
 obtain⟨oc,od,kV,doc,pm,an,cdv,ct,osl,rfl,lk,hcd⟩:=F.ex
 exact fn_of lk hcd S len λA outer s H vs Q E hr hsp=>hbody cdv A outer s H vs Q E hr hsp
end
end L2
namespace L2
open PySem PySem.Spec PyProof.Rows PySem.W
theorem ZgZ:∀{ns:List Int}{us:List Value},Vals (ns.map V.int) us->∃xs:Array (Int×Tok),us.toArray=intItems xs/\xs.toList.map (·.1)=ns
 |[],_,.nil=>⟨#[],by simp[intItems],rfl⟩
 |n::ns,_,.cons (b:=u) r t=>by
  obtain⟨tk,rfl⟩:=(show ∃t,u=Value.int n t from r)
  obtain⟨xs,e1,e2⟩:=ZgZ t
  refine⟨#[(n,tk)]++xs,?_,by simp[e2]⟩
  have:∀(l:List Value),(Value.int n tk::l).toArray=#[Value.int n tk]++l.toArray:=λl=>by simp
  rw[this,e1]
  simp[intItems]
section
variable {X:Cx}
theorem ZaN:OpR X (binaryOp .Mult) (rI IntMulOk λi j=>.int (i*j)):=opI λ_ _ _ _ _ _ _ hc q=>mul_int q hc
noncomputable def rSum (K:Frag):List V->Hp->VK->Prop:=λxs H Q=>∃(p:Addr) (ns:List Int),xs=[.ref p]/\SqL K H p (ns.map V.int)/\Q (.int ns.sum) H
theorem ZhA (hc:X.calm=true):Zbb X (.builtin "sum") (rSum X.K):=by
 intro pins s σ H xs us Q I r h
 obtain⟨p,ns,rfl,hp,q⟩:=h
 obtain⟨u,rfl,ru⟩:=r.one
 cases(show u=Value.ref p from ru)
 obtain⟨its,rv,pl,hz⟩:=I.list hp
 obtain⟨ys,e1,e2⟩:=ZgZ rv
 refine sum_intListG (xs:=ys) (I.ok.hd hc) (e1▸pl.isList) λh' tk t' k=>⟨.int ns.sum,H,I.kept k,⟨t',?_⟩,q⟩
 congr 1
 rw[preSum_eq,<-e2,List.take_of_length_le (by simp)]
theorem Zgs (hc:X.calm=true):Zbb X (.builtin "min") (λxs H Q=>∃(p:Addr) (ns:List Int),xs=[.ref p]/\SqL X.K H p (ns.map V.int)/\ns≠[]/\∀m,m∈ns->(∀a∈ns,m<=a)->Q (.int m) H):=by
 intro pins s σ H xs us Q I r h
 obtain⟨p,ns,rfl,hp,hne,q⟩:=h
 obtain⟨u,rfl,ru⟩:=r.one
 cases(show u=Value.ref p from ru)
 obtain⟨its,rv,pl,hz⟩:=I.list hp
 obtain⟨ys,e1,e2⟩:=ZgZ rv
 have hsz:0<ys.size:=by
  have:=congrArg List.length e2
  rw[Yf,YR]at this
  cases ns with
  |nil=>exact absurd rfl hne
  |cons=>simp at this;omega
 refine min_intList (xs:=ys) (I.ok.hd hc) (e1▸pl.isList) hsz λv h' tk hv k=>?_
 obtain⟨t,rfl⟩:=intItems_at hv
 obtain⟨h1,h2⟩:=argBest_lt (numAt ys) (ys.size-1)
 refine⟨.int _,H,I.kept k,⟨t,rfl⟩,q _ ?_ λa ha=>?_⟩
 ·rw[numAt_eq,e2];exact getD_mem (by rw[<-e2,Yf,YR];omega)
 ·obtain⟨j,hj,rfl⟩:=mem_getD ha
  rw[<-e2,Yf,YR]at hj
  rw[<-e2,<-numAt_eq];exact h2 j (by omega)
noncomputable def PJ (X:Cx) (es:List (Sem Value)) (t:St->Hp->(Hp->Prop)->Prop):Prop :=
 ∀(out:Str) (pins:List (Addr×Obj)) (s:Shared) (σ:St) (H:Hp) (Q:Hp->Prop),out.length+2000*es.length<=100000->Inv X pins σ H s->t σ H Q ->
  wpAny (model X.prog X.w) X.A (joinParts out es) (λu s'=>∃y tk H',u=.str y tk/\Inv X pins σ H' s'/\Q H') X.xe s
theorem Zis:PJ X [] (λ_ H Q=>Q H):=λout pins s σ H Q hl I h =>
 joinParts_nil ⟨out,_,H,rfl,I.tok _,h⟩ (by simp at hl;exact Yh hl (by decide))
theorem Zcn {x:Str}{j:Nat}{pos:Pos}{es:List (Sem Value)}{t:St->Hp->(Hp->Prop)->Prop} (hx:x.length<=2000) (h:PJ X es t):PJ X (eval (.Constant (.str x) j pos) X.env::es) t:=by
 intro out pins s σ H Q hl I hq
 have hl':(out++x).length+2000*es.length<=100000:=by rw[PySem.strLen_append];simp at hl;omega
 refine joinParts_cons (Calls.Constant_str ⟨Yh (Yh (Nat.le_add_right _ _) hl') (by decide),?_⟩)
 exact h _ pins _ σ H Q hl' (I.tok _) hq
theorem ZjF {i:Int} (h0:0<=i) (h1:i<10 ^ 18):i.natAbs.log2<1920:=by
 by_cases hz:i.natAbs=0
 ·rw[hz];decide
 ·have h3:i.natAbs<2 ^ 60:=by
   have:(2:Nat) ^ 60=1152921504606846976:=by decide
   have h2:(10:Int) ^ 18=1000000000000000000:=by decide
   omega
  exact Yp ((Nat.log2_lt hz).mpr h3) (by decide)
theorem Zg0 {e:Expr}{pos:Pos}{es:List (Sem Value)}{te:TE}{t:St->Hp->(Hp->Prop)->Prop} (he:PE X e te) (h:PJ X es t):PJ X (eval (.FormattedValue e (-1) none pos) X.env::es) (fun σ H Q=>te σ H λx H1=>∃i:Int,x=.int i/\(0<=i/\i<10 ^ 18)/\t σ H1 Q):=by
 intro out pins s σ H Q hl I hq
 refine joinParts_cons (FormattedValue_plain (thn (he pins s σ H _ I hq) λu s1 ⟨x,H1,I1,r1,i,ex,⟨h0,h1⟩,q⟩=>?_))
 subst ex
 obtain⟨tk,rfl⟩:=(show ∃t,u=Value.int i t from r1)
 refine wpAny_formatField_int (ZjF h0 h1) ?_
 have hx:(Str.ofString (toString i)).length<=18:=toString_length_le h0 (by decide) h1
 have hl':(out++Str.ofString (toString i)).length+2000*es.length<=100000:=by rw[PySem.strLen_append];simp at hl;omega
 refine⟨Yh (Yh (Nat.le_add_right _ _) hl') (by decide),?_⟩
 exact h _ pins _ σ H1 Q hl' (I1.tok _) q
theorem ZhB (env:Env):∀l:List Expr,(evalEach l env).length=l.length
 |[]=>rfl
 |e::r=>by
  have:evalEach (e::r) env=eval e env::evalEach r env:=rfl
  rw[this,Yn,Yn,ZhB env r]
theorem Zet {e1 e2:Expr}{rest:List Expr}{pos:Pos}{t:St->Hp->(Hp->Prop)->Prop} (h:PJ X (eval e1 X.env::eval e2 X.env::evalEach rest X.env) t) (hn:rest.length<=20:=by decide) :
  PE X (.JoinedStr (e1::e2::rest) pos) (fun σ H Q=>t σ H λH1=>∀y,Q (.str y) H1):=by
 intro pins s σ H Q I hq
 have hle:=ZhB X.env rest
 refine JoinedStr_many (thn (h Str.empty pins s σ H _ (by simp only[Yn,hle];show 0+_<=_;omega) I hq) λu s' ⟨y,tk,H',e,I',q⟩=>?_)
 subst e
 exact⟨.str y,H',I',⟨tk,rfl⟩,q y⟩
end
noncomputable def clsAt (mg:Str->Option Value) (x:Str):Addr:=match mg x with
 |some (.ref C)=>C
 |_=>0
noncomputable def tokAt (mg:Str->Option Value) (x:Str):Tok:=match mg x with
 |some (.int _ t)=>t
 |_=>default
noncomputable def Callee (P:Program) (w:World) (K:Frag) (mg:Str->Option Value) (base:Heap) (x:Str) (k:Nat) (ps:List Str) (sp:Sp):Prop :=
 ∃f fd,mg x=some (.ref f)/\keepIn K (.ref f)=true/\Binds K fd ps []/\FnOk P w K mg base (CXE P w) k f fd ps sp
section
variable {X:Cx}
theorem Zco {st:Stmt}{t:TS} (h:PS X.nox st t):PS X st t:=λpins s σ H D I hw =>
 YH (h pins s σ H D (I.ZfZ _) hw) (λ_ _ q=>q.ZcT) λ_ _ z=>False.elim z
theorem Zi {x:Str}{k:Nat}{ps:List Str}{sp:Sp}{E:XK}{e:Expr}{es:List Expr}{t:TA}{p pos:Pos} (C:Callee X.prog X.w X.K X.mg X.base x k ps sp) (hr:Room k X.A) (hg:Gl X x) (hx:Passes (CXE X.prog X.w) X E)
  (ha:PA X (e::es) t) (hdb:(x==("__debug__":Str))=false:=by decide) (he:starEach (e::es) X.env=(false,eval e X.env)::starEach es X.env:=by rfl) (hpl:(backTo pos (starEach es X.env)).any (·.1)=false:=by rfl) :
  PE X (.Call (.Name x p) (e::es) [] pos) (tCall sp [] E t):=by
 obtain⟨f,fd,hm,hk,hb,F⟩:=C
 exact ZiT F hr hg hm hk hb .nil hx ha hdb he hpl
theorem Zg1 {P:Program}{w:World}{K:Frag}{mg:Str->Option Value}{base:Heap}{N:List Str}{qual:Str}{scope:Scope}{f:Addr}{cd:Value}{A:Around}{outer:List Env}{s0:Shared}{H0:Hp}{E:XK}{C:Addr} :
  ∀pins σ H s h' e vs,Inv (Zer (CXE P w) P w K mg base N qual scope f cd A outer s0 H0 E) pins σ H s->Heap.MadeExcOf s.heap h' e (.ref C) vs->E (.ref C) none H->(Zer (CXE P w) P w K mg base N qual scope f cd A outer s0 H0 E).xe (.ref e) {s with heap:=h'} :=
 λ_ _ _ _ _ _ _ I hx hE=>ZgY I hx hE
end
theorem bt_max:bootBuiltins "max"=some (.builtin "max"):=by decide +kernel
theorem Zit:bootBuiltins "min"=some (.builtin "min"):=by decide +kernel
theorem ZkF:bootBuiltins "sum"=some (.builtin "sum"):=by decide +kernel
theorem Zdy:bootBuiltins "isinstance"=some (.builtin "isinstance"):=by decide +kernel
theorem Zg2:bootBuiltins "list"=some (.type "list"):=by decide +kernel
theorem Zfs:bootBuiltins "tuple"=some (.type "tuple"):=by decide +kernel
theorem ZkG:bootBuiltins "int"=some (.type "int"):=by decide +kernel
theorem Zmv:bootBuiltins "bool"=some (.type "bool"):=by decide +kernel
section
variable {X:Cx}{pins:List (Addr×Obj)}{σ:St}{H:Hp}{s:Shared}{h':Heap}
theorem Inv.Zmw {t':Nat}{fp:List Addr} (I:Inv X pins σ H s) (k:∀b o,b∉fp->s.heap.get? b=some o->h'.get? b=some o) (hf:∀b∈fp,FpOk X pins H b):Inv X pins σ H {s with heap:=h',toks:=t'}:=by
 have nit:∀b u,H b=some u->b∉fp:=λb u e z=>by rw[(hf b z).1]at e;cases e
 refine I.step (g':=s.gens) (d':=s.drawn) (ch:=fp) (λb hb=>?_) (λb o _ _ hc e _=>k b o hc e) (λb o _ _ hc e _=>⟨o.slots,k b o hc e⟩) (λ_ _ _ _ n=>n)
  (λb o hc e=>⟨o,k b o hc e⟩) (λ_ _ e=>e) (λ_ _ _ e=>e) (λb ps e=>⟨#[],by rw[e];simp⟩) (λm hm=>?_) (λb u e=>?_) I.bare
 ·obtain⟨_,f1,_,f3,f4,f5⟩:=hf b hb
  exact⟨f3,f1,f4,f5⟩
 ·obtain⟨o,es,ep,ho,r⟩:=hm
  exact⟨o,es,ep,k _ o (λz=>(hf _ z).2.1 rfl) ho,r⟩
 ·refine(I.hok b u e).ZgM (λc v hc q=>k c v ?_ q) (λ_ q=>q) (λ_ _ q=>q) λ_ _ _ q=>q
  rcases hc with z|z
  ·rw[z];exact nit b u e
  ·exact nit c _ z
end
theorem cxK {CX:CXT}{P:Program}{w:World}{K:Frag}{mg:Str->Option Value}{base:Heap}{N:List Str}{qual:Str}{scope:Scope}{f:Addr}{cd:Value}{A:Around}{outer:List Env}{s:Shared}{H:Hp}{E:XK} :
  (Zer CX P w K mg base N qual scope f cd A outer s H E).K=K:=rfl
theorem Zf.upd {H H1:Hp}{p:Addr}{o:HO} (h:H p=none) (e:Zf H H1):Zf H (upd H1 p o):=λb u z=>by
 rw[Zh (Zx z h)];exact e b u z
theorem Zf.ZbO {H H1:Hp}{p:Addr}{o:HO} (e:Zf H H1) (h:H1 p=none):Zf H (L2.upd H1 p o):=e.upd (e.free h)
noncomputable def LoopR (J:It) (g:TG) (tb:TS) (D:Ends) (σ:St) (H1:Hp):Prop:=∃W:Nat->Nat->St->Hp->Prop,(∃m,W 0 m σ H1)/\∀i m σ H,W i m σ H ->
 (J.stop i H/\D.nx σ H)\/(J.go i H/\∃N:St->Hp->Prop,(∀σ' H',N σ' H'->∃m',m'<m/\W (i+1) m' σ' H')/\∀x H',J.yld i H x H'->g x σ H' fun σ2 H2=>tb {D with nx:=N,ct:=N,bk:=D.nx} σ2 H2)
theorem ZiZ {wi:TI}{g:TG}{tb:TS}{D:Ends}{σ:St}{H:Hp}:tFor wi g tb D σ H=wi σ H λJ H1=>LoopR J g tb D σ H1:=rfl
noncomputable def ZkH (c:TT) (tb:TS) (D:Ends) (σ:St) (H:Hp):Prop:=Zif c tb D σ H
theorem Zgt {c:TT}{tb:TS}{D:Ends}{σ:St}{H:Hp}:Zif c tb D σ H=ZkH c tb D σ H:=rfl
noncomputable def Zft (J:It) (g:TG) (tt:TT) (te:TE) (σ0:St) (Q:VK) (H1:Hp):Prop:=∃W:Nat->Nat->List V->Hp->Prop,(∃m,W 0 m [] H1)/\∀i m acc H,W i m acc H ->
 (J.stop i H/\acc.length<=sizeLine/\∀p,H p=none->Q (.ref p) (upd H p (.lst acc))) \/
 (J.go i H/\acc.length<sizeLine/\∀x H',J.yld i H x H'->g x σ0 H' fun σ2 H2=>tt σ2 H2 λb H3=>if b=true then te σ2 H3 λv H4=>∃m',m'<m/\W (i+1) m' (acc++[v]) H4 else ∃m',m'<m/\W (i+1) m' acc H3)
theorem ZhC {wi:TI}{g:TG}{tt:TT}{te:TE}{js:List (Option Nat)}{σ:St}{H:Hp}{Q:VK}:ZiX wi g tt te js σ H Q=wi σ H λJ H1=>Zft J g tt te (iniC js σ) Q H1:=rfl
noncomputable def CW (n:Nat) (vals:Nat->V) (H1:Hp) (i m:Nat) (acc:List V) (H:Hp):Prop:=m=n-i/\i<=n/\acc=(List.range i).map vals/\Zf H1 H
theorem CW.next {n:Nat}{vals:Nat->V}{H1 H:Hp}{i:Nat}{v:V} (hi:i<n) (hv:v=vals i) (s:Zf H1 H):∃m',m'<n-i/\CW n vals H1 (i+1) m' ((List.range i).map vals++[v]) H :=
 ⟨n-(i+1),by omega,rfl,hi,by rw[YS,YM,hv];rfl,s⟩
theorem comp_map {J:It}{n:Nat}{H1:Hp}{g:TG}{tt:TT}{te:TE}{σ0:St}{Q:VK} (vals:Nat->V) (hn:n<sizeLine) (hgo:∀i H,Zf H1 H->i<n->J.go i H) (hstop:∀H,Zf H1 H->J.stop n H)
  (hb:∀i x H H',i<n->Zf H1 H->J.yld i H x H'->g x σ0 H' fun σ2 H2=>tt σ2 H2 λb H3=>if b=true then te σ2 H3 λv H4=>∃m',m'<n-i/\CW n vals H1 (i+1) m' ((List.range i).map vals++[v]) H4 else ∃m',m'<n-i/\CW n vals H1 (i+1) m' ((List.range i).map vals) H3)
  (hk:∀l H',Zf H1 H'->H' l=none->Q (.ref l) (upd H' l (.lst ((List.range n).map vals)))) :
  Zft J g tt te σ0 Q H1:=by
 refine⟨CW n vals H1,⟨n,rfl,Yu _,rfl,Zf.refl _⟩,?_⟩
 rintro i m acc H ⟨rfl,hi,rfl,s⟩
 by_cases h:i<n
 ·refine .inr ⟨hgo i H s h,by simpa using Nat.lt_trans h hn,λx H' y=>hb i x H H' h s y⟩
 ·have e:i=n:=by omega
  subst e
  exact .inl ⟨hstop H s,by simpa using YQ hn,λp hp=>hk p H s hp⟩
theorem Zg3 {α:Type}{xs:List α}{i:Int}{j:Nat} (h:i=(j:Int)) (hj:j<xs.length):atI xs i=some xs[j]:=by
 subst h
 unfold atI ixN
 rw[Yc (by omega),Yc (by omega)]
 simp
theorem Zmx {α:Type}{xs:List α}{i:Int} (C:α->Prop) (h0:0<=i) (h1:i<xs.length) (h:∀x∈xs,C x):∃v,atI xs i=some v/\C v:=by
 obtain⟨j,rfl⟩:=Y4 h0
 have hj:j<xs.length:=by omega
 exact⟨xs[j],Zg3 rfl hj,h _ (YT hj)⟩
theorem mul_r {a b:Int} (h1:-(2 ^ 64)<b) (h2:b<2 ^ 64):IntMulOk a b:=IntMulOk.of_right (intBits_le_64 h1 h2)
theorem Zgu {a b:Int} (h1:-(2 ^ 64)<a) (h2:a<2 ^ 64):IntMulOk a b:=IntMulOk.of_left (intBits_le_64 h1 h2)
theorem Zfj {a b:Int} (ha:Builtin.Int.intBits a<=2 ^ 20) (hb:Builtin.Int.intBits b<=2 ^ 20):IntMulOk a b:=IntMulOk.of_bits ha hb
theorem cp18:Zii 10 18:=by unfold Zii;decide
theorem cp59:Zii 10 59:=by unfold Zii;decide
noncomputable def Exc (p:Addr) (H H':Hp):Prop:=∀b o,b≠p->H b=some o->H' b=some o
theorem Zf.exc {H H1 H2:Hp}{p:Addr} (s:Zf H H1) (h:H p=none) (e:Exc p H1 H2):Zf H H2:=λb o z=>e b o (Zx z h) (s b o z)
theorem Zf.Zgv {H H':Hp}{p:Addr} (s:Zf H H'):Exc p H H':=λb o _ z=>s b o z
theorem Exc.upd {H:Hp}{p:Addr}{o:HO}:Exc p H (L2.upd H p o):=λb u n z=>by rw[Zh n];exact z
theorem ZaO {K:Frag}{H:Hp}{p:Addr}{xs:List V} (h:H p=some (.lst xs)):tyV K "list" (.ref p) H:=.inl ⟨rfl,_,SqL.of h⟩
theorem Zd1 {i j:Int}:Zht (.int i) (.int j)=true:=rfl
theorem Zi0 {i j:Bool}:Zht (.bl i) (.bl j)=true:=rfl
theorem Zi1 {i j:Str}:Zht (.str i) (.str j)=true:=rfl
theorem Zi2:Zht .non .non=true:=rfl
theorem Zi3 {i:Int}:Zht .non (.int i)=true:=rfl
theorem Zi4 {i:Int}:Zht (.int i) .non=true:=rfl
section
variable {X:Cx}
noncomputable def rLen (K:Frag):List V->Hp->VK->Prop:=λxs H Q=>∃p ys,xs=[.ref p]/\(SqL K H p ys\/SqT K H p ys)/\Q (.int ys.length) H
theorem Zq {K:Frag} (hK:X.K=K):Zbb X (.builtin "len") (rLen K):=by subst hK;exact ZgV
noncomputable def rLof (K:Frag):List V->Hp->VK->Prop:=λxs H Q=>∃p ys,xs=[.ref p]/\(SqL K H p ys\/SqT K H p ys)/\∀l,H l=none->Q (.ref l) (upd H l (.lst ys))
theorem ZdK {K:Frag} (hK:X.K=K):Zbb X (.type "list") (rLof K):=by subst hK;exact ZgW
noncomputable def rTof (K:Frag):List V->Hp->VK->Prop:=λxs H Q=>∃p ys,xs=[.ref p]/\((SqL K H p ys/\∀l,H l=none->Q (.ref l) (upd H l (.tup ys)))\/(SqT K H p ys/\Q (.ref p) H))
theorem Zgw {K:Frag} (hK:X.K=K):Zbb X (.type "tuple") (rTof K):=by subst hK;exact Zf1
theorem Zgx {K:Frag} (hK:X.K=K):Zbb X (.builtin "isinstance") (rIsi K):=by subst hK;exact ZkE
end
theorem ty_ii {K:Frag}{H:Hp}{i:Int}:tyIs K H (.int i) (.type "int") true:=.inl ⟨_,.int i,by with_unfolding_all rfl⟩
theorem ty_ib {K:Frag}{H:Hp}{i:Int}:tyIs K H (.int i) (.type "bool") false:=.inl ⟨_,.int i,by with_unfolding_all rfl⟩
theorem Zi5 {a:Addr}{x:Value}:(cOf (.ref a)=some x)=(.ref a=x):=by simp[cOf]
theorem ZkI {n:String}{x:Value}:(cOf (.ty n)=some x)=(.type n=x):=by simp[cOf]
noncomputable def suf:List Int->List Int
 |[]=>[]
 |x::r=>(x+r.sum)::suf r
noncomputable def grow (l:List Int):List Int:=l.sum::suf l
noncomputable def stepW (m:Nat) (l:List Int):List Int:=(grow l).take (min m l.length+1)
noncomputable def ways (m:Nat):Nat->List Int
 |0=>[1]
 |t+1=>stepW m (ways m t)
theorem Zmy (xs:List V):Zcl xs none (some 1)=xs.take 1:=by
 unfold Zcl HT.sIx
 cases xs<;>simp
noncomputable def Rows (H:Hp) (l:Addr) (rs:List (List Int)):Prop:=∃as:List Addr,H l=some (.lst (as.map V.ref))/\l∉as/\as.length=rs.length/\∀i (h1:i<as.length) (h2:i<rs.length),H as[i]=some (.lst (rs[i].map V.int))
inductive EqD (K:Frag) (H:Hp):Nat->V->V->Bool->Prop
 |flat {n:Nat}{x y:V} (fx:flatV x=true) (fy:flatV y=true):EqD K H n x y (eqV x y)
 |lst {n:Nat}{a b:Addr}{xs ys:List V} (e:Nat->Bool) (hx:SqL K H a xs) (hy:SqL K H b ys) (hl:xs.length=ys.length) (h:∀j x y,xs[j]?=some x->ys[j]?=some y->EqD K H n x y (e j)):EqD K H (n+1) (.ref a) (.ref b) ((List.range xs.length).all e)
 |len {n:Nat}{a b:Addr}{xs ys:List V} (hx:SqL K H a xs) (hy:SqL K H b ys) (hl:xs.length≠ys.length):EqD K H (n+1) (.ref a) (.ref b) false
 |tup {n:Nat}{a b:Addr}{xs ys:List V} (e:Nat->Bool) (hx:SqT K H a xs) (hy:SqT K H b ys) (h:∀j x y,xs[j]?=some x->ys[j]?=some y->EqD K H n x y (e j)):EqD K H (n+1) (.ref a) (.ref b) ((List.range (min xs.length ys.length)).all e&&xs.length==ys.length)
theorem ZhD {x:V} (h:flatV x=true):eqV x x=true:=by
 cases x<;>first
  |rfl
  |(simp[eqV];done)
  |cases h
section
variable {X:Cx}{pins:List (Addr×Obj)}{σ:St}{H:Hp}{s:Shared}
theorem ZhE (I:Inv X pins σ H s) {n:Nat}{x y:V}{b:Bool} (h:EqD X.K H n x y b):x=y->b=true:=by
 induction h with
 |flat fx fy=>rintro rfl;exact ZhD fx
 |lst e hx hy hl h ih =>
  intro z
  cases z
  have:=I.Zby hx hy
  subst this
  refine List.all_eq_true.mpr λj hj=>?_
  have hj':=YC.mp hj
  exact ih j _ _ (Ye hj') (Ye hj') rfl
 |len hx hy hl =>
  intro z
  cases z
  have:=I.Zby hx hy
  subst this
  exact absurd rfl hl
 |tup e hx hy h ih =>
  intro z
  cases z
  have:=I.Zdk hx hy
  subst this
  rw[Nat.min_self]
  have:(List.range _).all e=true:=List.all_eq_true.mpr λj hj=>by
   have hj':=YC.mp hj
   exact ih j _ _ (Ye hj') (Ye hj') rfl
  rw[this];simp
theorem ZkJ (I:Inv X pins σ H s) {n:Nat}{x y:V}{b:Bool} (h:EqD X.K H n x y b):∀(A:Around) (u v:Value),A.units+n<cLine->RelV x u->RelV y v->SeqAt.EqAt A s u v b:=by
 induction h with
 |flat fx fy=>intro A u v _ ru rv;exact Zky ru rv fx fy
 |@lst n a b xs ys e hx hy hl h ih =>
  intro A u v hu ru rv
  have hb:=ZhE I (.lst e hx hy hl h)
  cases ru
  cases rv
  by_cases hab:a=b
  ·subst hab
   rw[hb rfl];exact SeqAt.EqAt.same _
  ·obtain⟨is1,r1,p1,_⟩:=I.list hx
   obtain⟨is2,r2,p2,_⟩:=I.list hy
   have e1:=r1.length
   have e2:=r2.length
   have key:=SeqAt.RcAt.lists (A:=A) (s:=s) (e:=e) p1.isList p2.isList (by simp;omega) (by omega) λj h1 h2=>by
    have h1':j<xs.length:=by simpa[e1]using h1
    have h2':j<ys.length:=by simpa[e2]using h2
    obtain⟨u,hu1,ru⟩:=r1.get (Ye h1')
    obtain⟨v,hv1,rv⟩:=r2.get (Ye h2')
    have eu:is1.toArray[j]=u:=by simpa using(Yk.mp hu1).2
    have ev:is2.toArray[j]=v:=by simpa using(Yk.mp hv1).2
    rw[eu,ev]
    exact ih j _ _ (Ye h1') (Ye h2') A.in1 u v (by show A.units+1+n<cLine;omega) ru rv
   have e3:is1.toArray.size=xs.length:=by simp[e1]
   rw[e3]at key
   exact SeqAt.EqAt.of_refs hab key
 |@len n a b xs ys hx hy hl =>
  intro A u v hu ru rv
  cases ru
  cases rv
  have hab:a≠b:=λz=>by subst z;exact hl (congrArg List.length (I.Zby hx hy))
  obtain⟨is1,r1,p1,_⟩:=I.list hx
  obtain⟨is2,r2,p2,_⟩:=I.list hy
  have e1:=r1.length
  have e2:=r2.length
  exact SeqAt.EqAt.of_refs hab (SeqAt.RcAt.lists_lengths p1.isList p2.isList (by simp;omega) (by omega))
 |@tup n a b xs ys e hx hy h ih =>
  intro A u v hu ru rv
  have hb:=ZhE I (.tup e hx hy h)
  cases ru
  cases rv
  by_cases hab:a=b
  ·subst hab
   rw[hb rfl];exact SeqAt.EqAt.same _
  ·obtain⟨is1,r1,p1,_⟩:=I.tuple hx
   obtain⟨is2,r2,p2,_⟩:=I.tuple hy
   have e1:=r1.length
   have e2:=r2.length
   have key:=SeqAt.RcAt.tuples (A:=A) (s:=s) (e:=e) p1 p2 (by omega) λj h1 h2=>by
    have h1':j<xs.length:=by simpa[e1]using h1
    have h2':j<ys.length:=by simpa[e2]using h2
    obtain⟨u,hu1,ru⟩:=r1.get (Ye h1')
    obtain⟨v,hv1,rv⟩:=r2.get (Ye h2')
    have eu:is1.toArray[j]=u:=by simpa using(Yk.mp hu1).2
    have ev:is2.toArray[j]=v:=by simpa using(Yk.mp hv1).2
    rw[eu,ev]
    exact ih j _ _ (Ye h1') (Ye h2') A.in1 u v (by show A.units+1+n<cLine;omega) ru rv
   have e3:is1.toArray.size=xs.length:=by simp[e1]
   have e4:is2.toArray.size=ys.length:=by simp[e2]
   rw[e3,e4]at key
   exact SeqAt.EqAt.of_refs hab key
end
noncomputable def rEqD (K:Frag) (neg:Bool):R2:=λx y H Q=>∃a b k,x=.ref a/\y=.ref b/\EqD K H 3 x y k/\Q (.bl (if neg then !k else k)) H
section
variable {X:Cx}
theorem Ziu {K:Frag} (hK:X.K=K) {k:Nat} (hr:Room k X.A):OpR X (compareOp .Eq) (rEqD K false):=by
 subst hK
 have hu0:=hr.un
 intro pins s σ H x y v u Q I rx ry h
 obtain⟨a,b,k,rfl,rfl,h,q⟩:=h
 cases rx
 cases ry
 cases h with
 |flat fx fy=>cases fx
 |@lst n _ _ xs ys e hx hy hl h =>
  obtain⟨is1,r1,p1,_⟩:=I.list hx
  obtain⟨is2,r2,p2,_⟩:=I.list hy
  have e1:=r1.length
  have e2:=r2.length
  have e3:is1.toArray.size=xs.length:=by simp[e1]
  refine SeqAt.eq_listAt (e:=e) p1.isList p2.isList (by simp;omega) (by omega) (λj h1 h2=>?_) ⟨.bl _,H,I,rfl,by rw[e3];exact q⟩
  have h1':j<xs.length:=by simpa[e1]using h1
  have h2':j<ys.length:=by simpa[e2]using h2
  obtain⟨u,hu1,ru⟩:=r1.get (Ye h1')
  obtain⟨v,hv1,rv⟩:=r2.get (Ye h2')
  have eu:is1.toArray[j]=u:=by simpa using(Yk.mp hu1).2
  have ev:is2.toArray[j]=v:=by simpa using(Yk.mp hv1).2
  rw[eu,ev]
  exact ZkJ I (h j _ _ (Ye h1') (Ye h2')) X.A.in1 u v (by show X.A.units+1+2<cLine;omega) ru rv
 |@len n _ _ xs ys hx hy hl =>
  obtain⟨is1,r1,p1,_⟩:=I.list hx
  obtain⟨is2,r2,p2,_⟩:=I.list hy
  have e1:=r1.length
  have e2:=r2.length
  exact SeqAt.eq_list_lengthsAt p1.isList p2.isList (by simp;omega) (by omega) ⟨.bl _,H,I,rfl,q⟩
 |@tup n _ _ xs ys e hx hy h =>
  obtain⟨is1,r1,p1,_⟩:=I.tuple hx
  obtain⟨is2,r2,p2,_⟩:=I.tuple hy
  have e1:=r1.length
  have e2:=r2.length
  have e3:is1.toArray.size=xs.length:=by simp[e1]
  have e4:is2.toArray.size=ys.length:=by simp[e2]
  refine SeqAt.eq_tupleAt (e:=e) p1 p2 (by omega) (λj h1 h2=>?_) ⟨.bl _,H,I,rfl,by rw[e3,e4];exact q⟩
  have h1':j<xs.length:=by simpa[e1]using h1
  have h2':j<ys.length:=by simpa[e2]using h2
  obtain⟨u,hu1,ru⟩:=r1.get (Ye h1')
  obtain⟨v,hv1,rv⟩:=r2.get (Ye h2')
  have eu:is1.toArray[j]=u:=by simpa using(Yk.mp hu1).2
  have ev:is2.toArray[j]=v:=by simpa using(Yk.mp hv1).2
  rw[eu,ev]
  exact ZkJ I (h j _ _ (Ye h1') (Ye h2')) X.A.in1 u v (by show X.A.units+1+2<cLine;omega) ru rv
end
noncomputable def IsI (v:V) (i:Int):Prop:=v=.int i
noncomputable def IsL (K:Frag) (H:Hp) {α:Type} (P:V->α->Prop) (v:V) (as:List α):Prop:=∃a xs,v=.ref a/\SqL K H a xs/\xs.length=as.length/\∀(j:Nat) (x:V) (y:α),xs[j]?=some x->as[j]?=some y->P x y
noncomputable def IsT (K:Frag) (H:Hp) {α:Type} (P:V->α->Prop) (v:V) (as:List α):Prop:=∃a xs,v=.ref a/\SqT K H a xs/\xs.length=as.length/\∀(j:Nat) (x:V) (y:α),xs[j]?=some x->as[j]?=some y->P x y
noncomputable def EqP (K:Frag) (H:Hp) (n:Nat) {α:Type} [DecidableEq α] (P:V->α->Prop):Prop:=∀x y a b,P x a->P y b->EqD K H n x y (decide (a=b))
theorem Zi6 {K:Frag}{H:Hp}{n:Nat}:EqP K H n IsI:=by
 rintro x y a b rfl rfl
 have:=EqD.flat (K:=K) (H:=H) (n:=n) (x:=.int a) (y:=.int b) rfl rfl
 have e:eqV (.int a) (.int b)=decide (a=b):=by simp[eqV,Bool.beq_eq_decide_eq]
 rw[<-e];exact this
theorem all_eq {α:Type} [DecidableEq α] (as bs:List α) (h:as.length=bs.length):(List.range as.length).all (λj=>decide (as[j]?=bs[j]?))=decide (as=bs):=by
 rw[Bool.eq_iff_iff,List.all_eq_true,decide_eq_true_iff]
 constructor
 ·intro q
  refine List.ext_getElem? λj=>?_
  by_cases hj:j<as.length
  ·simpa using q j (YC.mpr hj)
  ·rw[List.getElem?_eq_none (by omega),List.getElem?_eq_none (by omega)]
 ·rintro rfl j _;simp
theorem Zmz {K:Frag}{H:Hp}{n:Nat}{α:Type} [DecidableEq α] {P:V->α->Prop} (h:EqP K H n P):EqP K H (n+1) (IsL K H P):=by
 rintro x y as bs ⟨a,xs,rfl,hx,lx,px⟩ ⟨b,ys,rfl,hy,ly,py⟩
 by_cases hl:as.length=bs.length
 ·rw[<-all_eq as bs hl,<-lx]
  refine .lst _ hx hy (by omega) λj x y h1 h2=>?_
  have j1:=(Yk.mp h1).1
  have j2:=(Yk.mp h2).1
  have ha:as[j]?=some as[j]:=Ye (by omega)
  have hb:bs[j]?=some bs[j]:=Ye (by omega)
  have:=h x y _ _ (px j _ _ h1 ha) (py j _ _ h2 hb)
  rw[ha,hb]
  simpa using this
 ·have e:decide (as=bs)=false:=by simp;intro z;exact hl (congrArg List.length z)
  rw[e]
  exact .len hx hy (by omega)
theorem ZmA {K:Frag}{H:Hp}{n:Nat}{α:Type} [DecidableEq α] {P:V->α->Prop} (h:EqP K H n P):EqP K H (n+1) (IsT K H P):=by
 rintro x y as bs ⟨a,xs,rfl,hx,lx,px⟩ ⟨b,ys,rfl,hy,ly,py⟩
 have key:=EqD.tup (K:=K) (H:=H) (n:=n) (λj=>decide (as[j]?=bs[j]?)) hx hy λj x y h1 h2=>by
  have j1:=(Yk.mp h1).1
  have j2:=(Yk.mp h2).1
  have ha:as[j]?=some as[j]:=Ye (by omega)
  have hb:bs[j]?=some bs[j]:=Ye (by omega)
  have:=h x y _ _ (px j _ _ h1 ha) (py j _ _ h2 hb)
  rw[ha,hb]
  simpa using this
 have e:((List.range (min xs.length ys.length)).all (λj=>decide (as[j]?=bs[j]?))&&xs.length==ys.length)=decide (as=bs):=by
  rw[lx,ly]
  by_cases hl:as.length=bs.length
  ·rw[<-hl,Nat.min_self,all_eq as bs hl];simp
  ·have e:decide (as=bs)=false:=by simp;intro z;exact hl (congrArg List.length z)
   rw[e]
   simp[hl]
 rw[e]at key
 exact key
theorem Zcg {K:Frag}{H:Hp}{a:Addr}{ns:List Int} (h:SqL K H a (ns.map V.int)):IsL K H IsI (.ref a) ns:=⟨a,_,rfl,h,by simp,λj x y h1 h2=>by
 rw[YK,h2]at h1
 exact(YA h1).symm⟩
theorem ZhF {K:Frag}{H:Hp}{a:Addr}{ns:List Int} (h:SqT K H a (ns.map V.int)):IsT K H IsI (.ref a) ns:=⟨a,_,rfl,h,by simp,λj x y h1 h2=>by
 rw[YK,h2]at h1
 exact(YA h1).symm⟩
section
variable {X:Cx}
noncomputable def rIxQ (K:Frag):R2:=λx y H Q=>∃p xs i v,x=.ref p/\y=.int i/\(SqL K H p xs\/SqT K H p xs)/\atI xs i=some v/\Q v H
theorem Ze3 {K:Frag} (hK:X.K=K):IxR X (rIxQ K):=by
 subst hK
 intro value slice pins s σ H x y v u Q I rx ry h hs
 refine(ZQ.or Zcm) (value:=value) (slice:=slice) pins s σ H x y v u Q I rx ry ?_ hs
 obtain⟨p,xs,i,v,rfl,rfl,hq,ha,q⟩:=h
 rcases hq with hq|hq
 ·exact .inl ⟨p,xs,i,v,rfl,rfl,hq,ha,q⟩
 ·exact .inr ⟨p,xs,i,v,rfl,rfl,hq,ha,q⟩
end
noncomputable def Zgy (f:Nat->Int) (a b p:Nat):Prop:=a<=p/\p<=b/\(∀q,a<=q->q<p->f p<f q)/\∀q,p<q->q<=b->f p<=f q
theorem Zgy.join {f:Nat->Int}{a m a' b p q:Nat} (h:Zgy f a m p) (k:Zgy f a' b q) (h1:a<=a') (h2:a'<=m+1) (h3:m<=b):Zgy f a b (if f q<f p then q else p):=by
 obtain⟨p1,p2,p3,p4⟩:=h
 obtain⟨q1,q2,q3,q4⟩:=k
 have pm:∀r,a<=r->r<=m->f p<=f r:=λr r1 r2=>by
  rcases Nat.lt_trichotomy r p with z|z|z
  ·exact Int.le_of_lt (p3 r r1 z)
  ·rw[z];exact Int.le_refl _
  ·exact p4 r z r2
 have qm:∀r,a'<=r->r<=b->f q<=f r:=λr r1 r2=>by
  rcases Nat.lt_trichotomy r q with z|z|z
  ·exact Int.le_of_lt (q3 r r1 z)
  ·rw[z];exact Int.le_refl _
  ·exact q4 r z r2
 split
 ·rename_i hlt
  refine⟨by omega,q2,λr r1 r2=>?_,λr r1 r2=>qm r (by omega) r2⟩
  by_cases z:a'<=r
  ·exact q3 r z r2
  ·have:=pm r r1 (by omega);omega
 ·rename_i hle
  refine⟨p1,by omega,p3,λr r1 r2=>?_⟩
  by_cases z:r<=m
  ·exact p4 r r1 z
  ·have:=qm r (by omega) r2;omega
noncomputable def ZjG (f:Nat->Int) (a:Nat):Nat->Nat
 |0=>a
 |c+1=>if f (a+c+1)<f (ZjG f a c)then a+c+1 else ZjG f a c
theorem Zgz (f:Nat->Int) (a:Nat):Zgy f a a a:=⟨Yd _,Yd _,λq h1 h2=>by omega,λq h1 h2=>by omega⟩
theorem Zi7 (f:Nat->Int) (a c:Nat):Zgy f a (a+c) (ZjG f a c):=by
 induction c with
 |zero=>exact Zgz f a
 |succ c ih =>
  rw[ZjG]
  exact ih.join (Zgz f (a+c+1)) (by omega) (by omega) (by omega)
noncomputable def nth (ns:List Int) (i:Nat):Int:=ns.getD i 0
theorem Za1 {ns:List Int}{i:Nat} (h:i<ns.length):atI (ns.map V.int) (i:Int)=some (V.int (nth ns i)):=by
 rw[Zg3 rfl (by simpa using h)]
 simp[nth,Yr,h]
noncomputable def WI (N:Nat) (Pv:Nat->St->Hp->Prop) (m:Nat) (σ:St) (H:Hp):Prop:=∃i,m=N-i/\i<=N/\Pv i σ H
theorem WI.next {N:Nat}{Pv:Nat->St->Hp->Prop}{i:Nat}:∀σ' H',(i+1<=N/\Pv (i+1) σ' H')->∃m',m'<N-i/\WI N Pv m' σ' H':=fun σ' H' h=>⟨N-(i+1),by omega,i+1,rfl,h.1,h.2⟩
theorem ZmB {c:TT}{tb:TS}{D:Ends}{σ:St}{H:Hp} (N:Nat) (Pv:Nat->St->Hp->Prop) (h0:Pv 0 σ H)
  (hs:∀i σ H,i<=N->Pv i σ H->c σ H λb H1=>if b=true then ∃Nx:St->Hp->Prop,(∀σ' H',Nx σ' H'->∃m',m'<N-i/\WI N Pv m' σ' H')/\tb {D with nx:=Nx,ct:=Nx,bk:=D.nx} σ H1 else D.nx σ H1):ZkH c tb D σ H:=by
 refine⟨WI N Pv,⟨N,0,rfl,Yu _,h0⟩,?_⟩
 rintro m σ H ⟨i,rfl,hi,p⟩
 exact hs i σ H hi p
theorem Zf.Ziv {K:Frag}{H H':Hp}{a:Addr}{xs:List V} (e:Zf H H') (h:SqT K H a xs):SqT K H' a xs:=by
 rcases h with(h|⟨o,h⟩)|h
 ·exact .inl (.inl (e _ _ h))
 ·exact .inl (.inr ⟨o,e _ _ h⟩)
 ·exact .inr h
theorem Zf.q {K:Frag}{H H':Hp}{a:Addr}{xs:List V} (e:Zf H H') (h:SqL K H a xs\/SqT K H a xs):SqL K H' a xs\/SqT K H' a xs:=h.imp e.seq e.Ziv
theorem Exc.trans {p:Addr}{H H1 H2:Hp} (a:Exc p H H1) (b:Exc p H1 H2):Exc p H H2:=λc o n z=>b c o n (a c o n z)
theorem Exc.free {p q:Addr}{H H':Hp} (e:Exc p H H') (n:q≠p) (h:H' q=none):H q=none:=by
 cases z:H q with
 |none=>rfl
 |some o=>rw[e q o n z]at h;cases h
theorem Exc.Zg4 {p q:Addr}{H H':Hp}{o:HO} (e:Exc p H H') (h:H q=none):Exc p H (L2.upd H' q o):=λb u n z=>by
 rw[Zh (Zx z h)];exact e b u n z
theorem Exc.same {p:Addr}{H H1 H2:Hp} (a:Exc p H H1) (s:Zf H1 H2):Exc p H H2:=a.trans s.Zgv
noncomputable def CA (n:Nat) (Pv:Nat->List V->Hp->Prop) (i m:Nat) (acc:List V) (H:Hp):Prop:=m=n-i/\i<=n/\acc.length<=i/\Pv i acc H
theorem CA.take {n:Nat}{Pv:Nat->List V->Hp->Prop}{i:Nat}{acc:List V}{v:V}{H:Hp} (hi:i<n) (hl:acc.length<=i) (h:Pv (i+1) (acc++[v]) H):∃m',m'<n-i/\CA n Pv (i+1) m' (acc++[v]) H:=⟨n-(i+1),by omega,rfl,hi,by simp;omega,h⟩
theorem CA.skip {n:Nat}{Pv:Nat->List V->Hp->Prop}{i:Nat}{acc:List V}{H:Hp} (hi:i<n) (hl:acc.length<=i) (h:Pv (i+1) acc H):∃m',m'<n-i/\CA n Pv (i+1) m' acc H:=⟨n-(i+1),by omega,rfl,hi,by omega,h⟩
theorem Zbg {J:It}{n:Nat}{H1:Hp}{g:TG}{tt:TT}{te:TE}{σ0:St}{Q:VK} (Pv:Nat->List V->Hp->Prop) (hn:n<sizeLine) (h0:Pv 0 [] H1) (hgo:∀i acc H,Pv i acc H->i<n->J.go i H) (hstop:∀acc H,Pv n acc H->J.stop n H)
  (hb:∀i x acc H H',i<n->acc.length<=i->Pv i acc H->J.yld i H x H'->g x σ0 H' fun σ2 H2=>tt σ2 H2 λb H3=>if b=true then te σ2 H3 λv H4=>∃m',m'<n-i/\CA n Pv (i+1) m' (acc++[v]) H4 else ∃m',m'<n-i/\CA n Pv (i+1) m' acc H3)
  (hk:∀l acc H',Pv n acc H'->acc.length<=n->H' l=none->Q (.ref l) (upd H' l (.lst acc))):Zft J g tt te σ0 Q H1:=by
 refine⟨CA n Pv,⟨n,rfl,Yu _,Yd _,h0⟩,?_⟩
 rintro i m acc H ⟨rfl,hi,hl,p⟩
 by_cases h:i<n
 ·exact .inr ⟨hgo i acc H p h,by omega,λx H' y=>hb i x acc H H' h hl p y⟩
 ·have e:i=n:=by omega
  subst e
  exact .inl ⟨hstop acc H p,by omega,λq hq=>hk q acc H p hl hq⟩
section
variable {X:Cx}
noncomputable def rInsert:V->List V->Hp->VK->Prop:=λx vs H Q=>∃l xs i y,x=.ref l/\vs=[.int i,y]/\H l=some (.lst xs)/\0<=i/\i<2 ^ 62/\xs.length<sizeLine/\Q .non (upd H l (.lst (xs.take i.toNat++y::xs.drop i.toNat)))
theorem Vals.ZkK:∀{xs:List V}{us:List Value} (k:Nat),Vals xs us->Vals (xs.take k) (us.take k)
 |_,_,0,_=>by simp;exact .nil
 |_,_,_+1,.nil=>.nil
 |_,_,k+1,.cons r h=>.cons r (Vals.ZkK k h)
theorem Vals.dropN:∀{xs:List V}{us:List Value} (k:Nat),Vals xs us->Vals (xs.drop k) (us.drop k)
 |_,_,0,h=>by simpa using h
 |_,_,_+1,.nil=>.nil
 |_,_,k+1,.cons _ h=>Vals.dropN k h
theorem ZjH:MtM X "list.insert" rInsert:=by
 intro pins s σ H x vs v us Q I rx rv h
 obtain⟨l,xs,i,y,rfl,rfl,hH,h1,h2,hz,q⟩:=h
 cases rx
 obtain⟨u,u2,rfl,ru,ru2⟩:=rv.two
 obtain⟨t,rfl⟩:=ru
 obtain⟨z,its,n,r,hl,e⟩:=I.Zhw hH
 have hf:¬ (!Builtin.List.listFitsIndex i)=true:=by
  unfold Builtin.List.listFitsIndex
  have a1:decide (-(2 ^ 63:Int)<=i)=true:=YL (by omega)
  have a2:decide (i<(2 ^ 63:Int))=true:=YL (by omega)
  rw[a1,a2];decide
 refine call_meets F.slot_list_insert ⟨_,e,rfl⟩ F.entry_list_insert (F.args_list_insert_3 _ _ _) (AutoListH.list_insert_list_int_val_1 l its.toArray n i t u2 hf (by rw[Yj];omega)) ⟨e,?_⟩
 refine⟨.non,_,I.lset (its':=its.take i.toNat++u2::its.drop i.toNat) (ys:=xs.take i.toNat++y::xs.drop i.toNat) hH e ?_ ((r.ZkK _).append (.cons ru2 (r.dropN _))) ?_,rfl,q⟩
 ·show((its.toArray.extract 0 (if i<0 then (i+((its.toArray.size:Nat):Int)).toNat else min i.toNat its.toArray.size)).push u2++its.toArray.extract (if i<0 then (i+((its.toArray.size:Nat):Int)).toNat else min i.toNat its.toArray.size))=_
  rw[Ya (by omega)]
  have e1:its.take (min i.toNat its.length)=its.take i.toNat:=by
   by_cases hh:i.toNat<=its.length
   ·rw[Nat.min_eq_left hh]
   ·rw[Nat.min_eq_right (by omega),List.take_of_length_le (by omega),List.take_of_length_le (by omega)]
  have e2:its.drop (min i.toNat its.length)=its.drop i.toNat:=by
   by_cases hh:i.toNat<=its.length
   ·rw[Nat.min_eq_left hh]
   ·rw[Nat.min_eq_right (by omega),List.drop_of_length_le (by omega),List.drop_of_length_le (by omega)]
  apply Array.ext'
  simp[e1,e2]
  exact List.take_of_length_le (by rw[Y3];omega)
 ·rw[Yy,Yn,YZ,Y3];omega
noncomputable def rIndex (K:Frag):V->List V->Hp->VK->Prop:=λx vs H Q=>∃(l:Addr) (ns:List Int) (k:Int),x=.ref l/\vs=[.int k]/\SqL K H l (ns.map V.int)/\ns.length<=100000/\k∈ns/\Q (.int (ns.idxOf k:Nat)) H
theorem ZkL {K:Frag} (hK:X.K=K):MtM X "list.index" (rIndex K):=by
 subst hK
 intro pins s σ H x vs v us Q I rx rv h
 obtain⟨l,ns,k,rfl,rfl,hH,hz,hk,q⟩:=h
 cases rx
 obtain⟨u,rfl,ru⟩:=rv.one
 obtain⟨t,rfl⟩:=ru
 obtain⟨its,r,pl,_⟩:=I.list hH
 have hi:IntsAre its ns:=intsAre_of r
 have hlen:=r.length
 rw[Yf]at hlen
 obtain⟨⟨cls,dd,data,sl⟩,ho,hc,n,hd⟩:=pl.isList
 simp only at hc hd
 subst hc hd
 have hj:ns.idxOf k<ns.length:=List.idxOf_lt_length_iff.mpr hk
 refine call_meets F.slot_list_index ⟨_,ho,rfl⟩ F.entry_list_index (F.args_list_index_2 _ _)
  (SeqAt.list_indexAt l its.toArray n dd sl (.int k t) (isInt k) (ns.idxOf k) (by rw[Yj];omega) (by omega) ?_ ?_) ⟨ho,λy hy=>(eq_isInt k t hi y (by simpa using hy)).at _ _,⟨.int _,H,I.tok _,⟨_,rfl⟩,q⟩⟩
 ·show isInt k its[ns.idxOf k]=true
  rw[isInt_at k hi _ (by omega) hj]
  simpa using List.getElem_idxOf hj
 ·intro j hjs hlt
  show isInt k its[j]=false
  rw[isInt_at k hi j (by simpa using hjs) (by omega)]
  exact ne_of_lt_idxOf hlt _
end
noncomputable def rIntB:List V->Hp->VK->Prop:=λxs H Q=>∃k,xs=[.bl k]/\Q (.int (if k=true then 1 else 0)) H
theorem ZjI {X:Cx}:Zbb X (.type "int") rIntB:=λpins s σ H xs us Q I r h=>Zjt pins s σ H xs us Q I r (.inr h)
noncomputable def Zu (H:Hp) (p:Addr):Prop:=∃x:Int,H p=some (.lst [.int x])/\0<=x
theorem Zu.ne {H:Hp}{p q:Addr} (P:Zu H p) (h:H q=none):q≠p:=by
 obtain⟨x,e,_⟩:=P
 exact(Zx e h).symm
theorem Zu.same {H H':Hp}{p:Addr} (P:Zu H p) (s:Zf H H'):Zu H' p:=by
 obtain⟨x,e,r⟩:=P
 exact⟨x,s _ _ e,r⟩
theorem Zu.upd {H:Hp}{p q:Addr}{o:HO} (P:Zu H p) (h:H q=none):Zu (L2.upd H q o) p:=P.same ((Zf.refl H).upd h)
theorem Zu.Zg4 {H:Hp}{p q:Addr}{o:HO} (P:Zu H p) (h:q≠p):Zu (L2.upd H q o) p:=by
 obtain⟨x,e,r⟩:=P
 exact⟨x,by rw[Zh h.symm];exact e,r⟩
theorem cp60:Zii 10 60:=by unfold Zii;decide
theorem qm1:IntMulOk (10 ^ Int.toNat 60) (10 ^ Int.toNat 60):=Zfj (by decide +kernel) (by decide +kernel)
theorem qm2:IntMulOk (10 ^ Int.toNat 60*10 ^ Int.toNat 60) (10 ^ Int.toNat 60):=Zfj (by decide +kernel) (by decide +kernel)
theorem qm3:IntMulOk (10 ^ Int.toNat 60*10 ^ Int.toNat 60*10 ^ Int.toNat 60) (10 ^ Int.toNat 60):=Zfj (by decide +kernel) (by decide +kernel)
theorem qm4:(0:Int)<10 ^ Int.toNat 60*10 ^ Int.toNat 60*10 ^ Int.toNat 60*10 ^ Int.toNat 60:=by decide +kernel
end L2
namespace L2
noncomputable def ZS (f:Nat->Int) (p q:Nat):Prop:=q<p/\f q<=f p/\∀r,q<r->r<p->f p<f r
noncomputable def ZO (f:Nat->Int) (n p r:Nat):Prop:=p<r/\r<n/\f r<f p/\∀s,p<s->s<r->f p<=f s
noncomputable def ZbA (f:Nat->Int) (p:Nat):Prop:=∀q,q<p->f p<f q
noncomputable def Za2 (f:Nat->Int) (n p:Nat):Prop:=∀r,p<r->r<n->f p<=f r
noncomputable def Zv (f:Nat->Int) (n p:Nat) (e:Int):Prop :=
 (ZbA f p/\Za2 f n p/\e=-1)\/(∃q,ZS f p q/\Za2 f n p/\e=q)\/(∃r,ZbA f p/\ZO f n p r/\e=r) \/
 ∃q r,ZS f p q/\ZO f n p r/\e=if f q<=f r then (r:Int)else q
theorem ZhG {P:Nat->Prop} [DecidablePred P] (i:Nat):∀d r,r+d=i->P r->∃t,r<=t/\t<=i/\P t/\∀s,t<s->s<=i->¬ P s:=by
 intro d
 induction d with
 |zero=>intro r e h;exact⟨r,Yd _,by omega,h,λs h1 h2=>by omega⟩
 |succ d ih =>
  intro r e h
  by_cases hx:∃t,r<t/\t<=i/\P t
  ·obtain⟨t,h1,h2,h3⟩:=hx
   -- step to r+1 by cases
   by_cases h4:P (r+1)
   ·obtain⟨u,u1,u2,u3,u4⟩:=ih (r+1) (by omega) h4
    exact⟨u,by omega,u2,u3,u4⟩
   ·-- go on from the next one
    have gen:∀k t,t+k=i->r<t->P t->∃u,r<=u/\u<=i/\P u/\∀s,u<s->s<=i->¬ P s:=by
     intro k
     induction k with
     |zero=>intro t e h1 h3;exact⟨t,by omega,by omega,h3,λs h1 h2=>by omega⟩
     |succ k ihk =>
      intro t e h1 h3
      by_cases hy:∃s,t<s/\s<=i/\P s
      ·-- the last one of the rest
       have key:∀m,m<=i->(∃s,t<s/\s<=m/\P s)->∃u,t<u/\u<=m/\P u/\∀s,u<s->s<=m->¬ P s:=by
        intro m
        induction m with
        |zero=>rintro _ ⟨s,h5,h6,_⟩;omega
        |succ m ihm =>
         rintro hm ⟨s,h5,h6,h7⟩
         by_cases hp:P (m+1)
         ·exact⟨m+1,by omega,Yd _,hp,λs h1 h2=>by omega⟩
         ·have hs:s<=m:=by
           rcases Nat.lt_or_ge m s with z|z
           ·have:s=m+1:=by omega
            rw[this]at h7;exact absurd h7 hp
           ·exact z
          obtain⟨u,u1,u2,u3,u4⟩:=ihm (by omega) ⟨s,h5,hs,h7⟩
          refine⟨u,u1,by omega,u3,λs' h1 h2=>?_⟩
          by_cases e:s'=m+1
          ·rw[e];exact hp
          ·exact u4 s' h1 (by omega)
       obtain⟨u,u1,u2,u3,u4⟩:=key i (Yd _) hy
       exact⟨u,by omega,u2,u3,u4⟩
      ·exact⟨t,by omega,by omega,h3,λs h1 h2 h5=>hy ⟨s,h1,h2,h5⟩⟩
    exact gen (i-t) t (by omega) h1 h3
  ·exact⟨r,Yd _,by omega,h,λs h1 h2 h3=>hx ⟨s,h1,h2,h3⟩⟩
theorem Ziw {P:Nat->Prop} [DecidablePred P] {n r:Nat} (hr:r<n) (h:P r):∃t,r<=t/\t<n/\P t/\∀s,t<s->s<n->¬ P s:=by
 obtain⟨t,h1,h2,h3,h4⟩:=ZhG (P:=P) (n-1) (n-1-r) r (by omega) h
 exact⟨t,h1,by omega,h3,λs a b=>h4 s a (by omega)⟩
noncomputable def ZkM (f:Nat->Int) (i:Nat) (sp:List Nat):Prop:=sp.Pairwise (· < ·)/\∀q,q∈sp↔q<i/\∀r,q<r->r<i->f q<=f r
theorem Zi8 (f:Nat->Int) (p:Nat):ZbA f p\/∃q,ZS f p q:=by
 by_cases h:∃q,q<p/\f q<=f p
 ·obtain⟨q,h1,h2⟩:=h
  obtain⟨t,_,t2,t3,t4⟩:=Ziw (P:=λq=>f q<=f p) h1 h2
  exact .inr ⟨t,t2,t3,λr a b=>by have:=t4 r a b;omega⟩
 ·exact .inl λq hq=>by
   have:¬ (f q<=f p):=λz=>h ⟨q,hq,z⟩
   omega
theorem ZjJ {f:Nat->Int}{i p q:Nat} (hp:p<i) (ho:∀r,p<r->r<i->f p<=f r) (h:ZS f p q):(∀r,q<r->r<i->f q<=f r)/\∀s,q<s->s<p->¬ ∀r,s<r->r<i->f s<=f r:=by
 obtain⟨h1,h2,h3⟩:=h
 refine⟨λr a b=>?_,λs a b z=>?_⟩
 ·rcases Nat.lt_trichotomy r p with c|c|c
  ·have:=h3 r a c;omega
  ·rw[c];exact h2
  ·have:=ho r c b;omega
 ·have:=z p b hp
  have:=h3 s a b
  omega
theorem Zix {f:Nat->Int}{i:Nat}{A B:List Nat} (hs:ZkM f i (A++B)) (hA:∀q∈A,f q<=f i) (hB:∀q∈B,f i<f q) :
  ZkM f (i+1) (A++[i])/\Zv f (i+1) i (match A.getLast? with|some q=>(q:Int)|none=>-1)/\∀p e,p<i->Zv f i p e->Zv f (i+1) p (if B.head?=some p then (i:Int)else e):=by
 obtain⟨hso,hm⟩:=hs
 have hAB:=List.pairwise_append.mp hso
 have noNx:Za2 f (i+1) i:=λr a b=>by omega
 refine⟨⟨?_,λq=>?_⟩,?_,λp e hp he=>?_⟩
 ·refine List.pairwise_append.mpr ⟨hAB.1,List.pairwise_singleton _ _,λa ha b hb=>?_⟩
  have:b=i:=by simpa using hb
  rw[this]
  exact((hm a).mp (YJ _ ha)).1
 ·rw[Yq,YF]
  constructor
  ·rintro(h|h)
   ·obtain⟨h1,h2⟩:=(hm q).mp (YJ _ h)
    refine⟨by omega,λr a b=>?_⟩
    by_cases e:r=i
    ·rw[e];exact hA q h
    ·exact h2 r a (by omega)
   ·subst h;exact⟨by omega,λr a b=>by omega⟩
  ·rintro⟨h1,h2⟩
   by_cases e:q=i
   ·exact .inr e
   ·have hq:q∈A++B:=(hm q).mpr ⟨by omega,λr a b=>h2 r a (by omega)⟩
    rcases Yq.mp hq with h|h
    ·exact .inl h
    ·have:=hB q h
     have:=h2 i (by omega) (by omega)
     omega
 ·-- the elder of i
  rcases Zi8 f i with h|⟨q,h⟩
  ·have hA0:A=[]:=by
    cases A with
    |nil=>rfl
    |cons a r =>
     have h1:=((hm a).mp (by simp)).1
     have:=hA a (by simp)
     have:=h a h1
     omega
   rw[hA0]
   exact .inl ⟨h,noNx,rfl⟩
  ·have ho:∀r,q<r->r<i->f q<=f r:=λr a b=>by have:=h.2.2 r a b;have:=h.2.1;omega
   have hqA:q∈A:=by
    rcases Yq.mp ((hm q).mpr ⟨h.1,ho⟩)with z|z
    ·exact z
    ·have:=hB q z;have:=h.2.1;omega
   have hlast:A.getLast?=some q:=by
    have hne:A≠[]:=λz=>by rw[z]at hqA;cases hqA
    rw[List.getLast?_eq_some_getLast hne]
    congr 1
    have hl:A.getLast hne∈A:=List.getLast_mem hne
    -- q<=last,and last is not past q
    by_cases e:A.getLast hne=q
    ·exact e
    ·exfalso
     have hlt:q<A.getLast hne:=by
      have hd:=List.dropLast_concat_getLast hne
      have hq2:q∈A.dropLast:=by
       rw[<-hd]at hqA
       rcases Yq.mp hqA with z|z
       ·exact z
       ·exact absurd (by simpa using z) (Ne.symm e)
      have hp2:=hAB.1
      rw[<-hd]at hp2
      exact(List.pairwise_append.mp hp2).2.2 q hq2 _ (by simp)
     have h1:=((hm (A.getLast hne)).mp (YJ _ hl)).1
     have:=h.2.2 _ hlt h1
     have:=hA _ hl
     omega
   rw[hlast]
   exact .inr (.inl ⟨q,h,noNx,rfl⟩)
 ·-- the elder of an earlier place
  have nxt:∀r,ZO f i p r->ZO f (i+1) p r:=λr ⟨a,b,c,d⟩=>⟨a,by omega,c,d⟩
  by_cases hop:Za2 f i p
  ·have hmem:p∈A++B:=(hm p).mpr ⟨hp,hop⟩
   by_cases hlt:f i<f p
   ·have hnx:ZO f (i+1) p i:=⟨hp,by omega,hlt,λs a b=>hop s a b⟩
    have hpB:p∈B:=by
     rcases Yq.mp hmem with z|z
     ·have:=hA p z;omega
     ·exact z
    obtain⟨b0,Br,rfl⟩:∃b0 Br,B=b0::Br:=by
     cases B with
     |nil=>cases hpB
     |cons b0 Br=>exact⟨b0,Br,rfl⟩
    have hhead:(b0::Br).head?=some b0:=rfl
    rw[hhead]
    rcases Zi8 f p with hn|⟨q,hq⟩
    ·-- nothing ahead: p is the first of all
     have e0:b0=p:=by
      by_cases z:b0=p
      ·exact z
      ·exfalso
       have hpr:p∈Br:=by
        rcases Yl.mp hpB with y|y
        ·exact absurd y.symm z
        ·exact y
       have hlt2:b0<p:=(Y1.mp hAB.2.1).1 p hpr
       have:=((hm b0).mp (by simp)).2 p hlt2 hp
       have:=hn b0 hlt2
       omega
     rw[Yc (by rw[e0])]
     exact .inr (.inr (.inl ⟨i,hn,hnx,rfl⟩))
    ·obtain⟨hq1,hq2⟩:=ZjJ hp hop hq
     have hqm:q∈A++b0::Br:=(hm q).mpr ⟨Nat.lt_trans hq.1 hp,hq1⟩
     by_cases hqi:f q<=f i
     ·-- q is kept: p is the first of B
      have e0:b0=p:=by
       by_cases z:b0=p
       ·exact z
       ·exfalso
        have hpr:p∈Br:=by
         rcases Yl.mp hpB with y|y
         ·exact absurd y.symm z
         ·exact y
        have hlt2:b0<p:=(Y1.mp hAB.2.1).1 p hpr
        have hb0:=(hm b0).mp (by simp)
        have hqA:q∈A:=by
         rcases Yq.mp hqm with y|y
         ·exact y
         ·have:=hB q y;omega
        have hqb:q<b0:=hAB.2.2 q hqA b0 (by simp)
        exact hq2 b0 hqb hlt2 hb0.2
      rw[Yc (by rw[e0])]
      refine .inr (.inr (.inr ⟨q,i,hq,hnx,?_⟩))
      rw[Yc hqi]
     ·-- q goes,too: the elder stays
      have hqB:q∈b0::Br:=by
       rcases Yq.mp hqm with y|y
       ·exact absurd (hA q y) hqi
       ·exact y
      have hne:b0≠p:=by
       intro z
       subst z
       rcases Yl.mp hqB with y|y
       ·have:=hq.1;omega
       ·have:=(Y1.mp hAB.2.1).1 q y
        have:=hq.1;omega
      rw[Ya (by intro z;exact hne (YA z))]
      have ee:e=q:=by
       rcases he with⟨h1,_,_⟩|⟨q',h1,_,h3⟩|⟨r,h1,_,_⟩|⟨q',r,_,h2,_⟩
       ·have:=h1 q hq.1;have:=hq.2.1;omega
       ·have:q'=q:=by
         rcases Nat.lt_trichotomy q' q with y|y|y
         ·have:=h1.2.2 q y hq.1;have:=hq.2.1;omega
         ·exact y
         ·have:=hq.2.2 q' y h1.1;have:=h1.2.1;omega
        rw[h3,this]
       ·have:=h1 q hq.1;have:=hq.2.1;omega
       ·have:=hop r h2.1 h2.2.1;have:=h2.2.2.1;omega
      refine .inr (.inr (.inr ⟨q,i,hq,hnx,?_⟩))
      rw[Ya hqi,ee]
   ·-- still open: not of B
    have hnn:Za2 f (i+1) p:=λr a b=>by
     by_cases z:r=i
     ·rw[z];omega
     ·exact hop r a (by omega)
    have hne:B.head?≠some p:=λz=>by
     have:p∈B:=List.mem_of_head? z
     have:=hB p this
     omega
    rw[Ya hne]
    rcases he with⟨h1,_,h3⟩|⟨q,h1,_,h3⟩|⟨r,_,h2,_⟩|⟨q,r,_,h2,_⟩
    ·exact .inl ⟨h1,hnn,h3⟩
    ·exact .inr (.inl ⟨q,h1,hnn,h3⟩)
    ·have:=hop r h2.1 h2.2.1;have:=h2.2.2.1;omega
    ·have:=hop r h2.1 h2.2.1;have:=h2.2.2.1;omega
  ·-- shut already
   have hne:B.head?≠some p:=λz=>hop ((hm p).mp (Yt _ (List.mem_of_head? z))).2
   rw[Ya hne]
   rcases he with⟨_,h2,_⟩|⟨q,_,h2,_⟩|⟨r,h1,h2,h3⟩|⟨q,r,h1,h2,h3⟩
   ·exact absurd h2 hop
   ·exact absurd h2 hop
   ·exact .inr (.inr (.inl ⟨r,h1,nxt r h2,h3⟩))
   ·exact .inr (.inr (.inr ⟨q,r,h1,nxt r h2,h3⟩))
end L2
namespace L2
open PySem PySem.Spec PyProof.Rows PySem.W
theorem Zfu {α β:Type}{f g:α->Option β}:∀{l:List α},(∀x∈l,f x=g x)->l.filterMap f=l.filterMap g
 |[],_=>rfl
 |x::r,h=>by rw[List.filterMap_cons,List.filterMap_cons,h x (YY ..),Zfu λy hy=>h y (YN _ hy)]
theorem ZjK (its:List Value) (k:Nat) (hk:k<=its.length) (start:Nat):(its.zipIdx start).filterMap (λxk=>if (decide (((start+k:Nat):Int)<=(xk.2:Int))&&decide ((xk.2:Int)<((start+its.length:Nat):Int))&&(((xk.2:Int)-((start+k:Nat):Int)) % 1==0))=true then none else some xk.1)=its.take k:=by
 induction its generalizing k start with
 |nil=>simp
 |cons x r ih =>
  rw[List.zipIdx_cons,List.filterMap_cons]
  cases k with
  |zero =>
   have h1:(decide (((start+0:Nat):Int)<=(start:Int))&&decide ((start:Int)<((start+(x::r).length:Nat):Int))&&(((start:Int)-((start+0:Nat):Int)) % 1==0))=true:=by
    simp;omega
   simp only[h1,if_true]
   have:=ih 0 (by omega) (start+1)
   rw[List.take_zero]at this⊢
   rw[<-this]
   refine Zfu λxk hxk=>?_
   have hm:=List.mem_zipIdx hxk
   have e1:(decide (((start+0:Nat):Int)<=(xk.2:Int)))=(decide (((start+1+0:Nat):Int)<=(xk.2:Int))):=by
    rw[decide_eq_decide];omega
   have e2:((start+(x::r).length:Nat):Int)=((start+1+r.length:Nat):Int):=by simp;omega
   have e3:(((xk.2:Int)-((start+0:Nat):Int)) % 1==0)=(((xk.2:Int)-((start+1+0:Nat):Int)) % 1==0):=by simp[Int.emod_one]
   rw[e1,e2,e3]
  |succ k =>
   have h1:(decide (((start+(k+1):Nat):Int)<=(start:Int))&&decide ((start:Int)<((start+(x::r).length:Nat):Int))&&(((start:Int)-((start+(k+1):Nat):Int)) % 1==0))=false:=by
    have:decide (((start+(k+1):Nat):Int)<=(start:Int))=false:=YI (by omega)
    rw[this];rfl
   simp only[h1,Bool.false_eq_true,if_false]
   rw[List.take_succ_cons]
   congr 1
   have:=ih k (by simpa using hk) (start+1)
   rw[<-this]
   refine Zfu λxk hxk=>?_
   have e1:((start+(k+1):Nat):Int)=((start+1+k:Nat):Int):=by omega
   have e2:((start+(x::r).length:Nat):Int)=((start+1+r.length:Nat):Int):=by simp;omega
   rw[e1,e2]
section
variable {X:Cx}{e st:Expr}{te ts:TE}{pos pos1 p2:Pos}
noncomputable def tDelT (te ts:TE):TS:=λD σ H=>te σ H λx H1=>ts σ H1 λz H2=>∃(l:Addr) (xs:List V) (k:Nat),x=.ref l/\z=.int k/\H2 l=some (.lst xs)/\k<=xs.length/\D.nx σ (upd H2 l (.lst (xs.take k)))
theorem Ziy (he:PE X e te) (hs:PE X st ts):PS X (.Delete [.Subscript e (.Slice (some st) none none p2) pos1] pos) (tDelT te ts):=by
 intro pins s σ H D I h
 refine wpAny_Delete (wpAny_deleteEach_cons ?_)
 show wpAny _ _ (eval e X.env >>= λov=>holding [ov] (eval (.Slice (some st) none none p2) X.env) >>= λiv=>(do standAt pos1;holding [ov,iv] (delItem ov iv);release [ov,iv] [])) _ _ _
 refine Yb (thn (he pins s σ H _ I h) λv s1 ⟨x,H1,I1,r1,q1⟩=>?_)
 refine Yb (wpAny_holding ?_)
 refine wpAny_Slice ?_
 rw[evalPart_some]
 refine thn (hs pins s1 σ H1 _ I1 q1) λvs s2 ⟨z,H2,I2,r2,l,xs,k,e1,e2,hx,hk,q⟩=>?_
 subst e1 e2
 obtain⟨tk,rfl⟩:=r2
 cases r1
 rw[evalPart_none]
 refine Yg ?_
 refine Yg ?_
 have I4:Inv X pins σ H2 {s2 with heap:=s2.heap.push {cls:=.type "slice",data:=.fields #[.int k tk,.none,.none]}}:=I2.kept (t':=s2.toks) λb ob q=>Ym _ q
 have hsl:({s2 with heap:=s2.heap.push {cls:=.type "slice",data:=.fields #[.int k tk,.none,.none]}}:Shared).heap.get? s2.heap.objs.size=some {cls:=.type "slice",data:=.fields #[.int k tk,.none,.none]}:=Yz _ rfl
 obtain⟨z,its,n,r,hlen,hob⟩:=I4.Zhw hx
 generalize ({s2 with heap:=s2.heap.push {cls:=.type "slice",data:=.fields #[.int k tk,.none,.none]}}:Shared)=s4 at I4 hsl hob⊢
 have hT:s4.TypeIs (.ref l) "list":=⟨_,hob,rfl⟩
 have hTs:s4.TypeIs (.ref s2.heap.objs.size) "slice":=⟨_,hsl,rfl⟩
 refine Yb (wpAny_standAt (Yb (wpAny_holding ?_)))
 refine wpAny_delItem_slot hT (by decide) F.slot_list_delitem (wpAny_call_entry F.slot_list_delitem hT F.entry_list_delitem ?_ (F.args_list_delitem_2 _ _))
 show wpAny _ _ (Builtin.List.listSubscript? (.ref s2.heap.objs.size) >>= _) _ _ s4
 refine Yb ?_;unfold Builtin.List.listSubscript?;refine Yb (wpAny_specialOf hTs slice_no_index ?_)
 simp only[Option.isNone_none,if_true];refine Yg ?_
 show wpAny _ _ (typeOf (.ref s2.heap.objs.size) >>= _) _ _ s4
 refine Yb (wpAny_typeOf hTs ?_);rw[Ya (by decide),listSliceParts_eq]
 refine Yb (Yb (wpAny_field hsl rfl (x:=.none) rfl (Yb (wpAny_listPart (k:=none) .none ?_))));rw[Ya (show ¬ ((rawPart none==rawInt 0)=true)from Ys)]
 refine Yb (wpAny_field hsl rfl (x:=.int k tk) rfl (Yb (wpAny_listPart (.int (k:Int) tk) ?_)))
 refine Yb (wpAny_field hsl rfl (x:=.none) rfl (Yb (wpAny_listPart (k:=none) .none (Yg ?_))))
 refine Yb (m:=Builtin.List.listItems (.ref l)) ?_;unfold Builtin.List.listItems
 refine Yb (wpAny_seqItems hob rfl (Yg ?_));refine Yb (wpAny_of_eq (sliceIndices_raw (some (k:Int)) none none its.toArray.size (by simp)) (Yb (wpAny_rule ?_)))
 have hb:sliceBounds (some (k:Int)) none none its.toArray.size=((k:Int),((its.length:Nat):Int),1):=by
  unfold sliceBounds
  simp
  omega
 rw[hb]
 have hf:∀f:Array Value->Array Value,(∀ys:Array Value,f ys=(ys.toList.zipIdx.filterMap λxk=>if (decide ((k:Int)<=(xk.2:Int))&&decide ((xk.2:Int)<((its.length:Nat):Int))&&(((xk.2:Int)-(k:Int)) % 1==0))=true then none else some xk.1).toArray)->f its.toArray=(its.take k).toArray:=λf h=>by
  rw[h]
  congr 1
  have:=ZjK its k (by omega) 0
  simpa using this
 refine Yb (m:=updateSeq l _) ?_
 refine wpAny_updateSeq (n:=n) hob rfl ?_ (by rw[Yj];omega) ?_
 ·refine Yb (wpAny_letGo (Yg ⟨_,rfl,?_⟩))
  refine wpAny_release (wpAny_deleteEach_nil ⟨σ,_,I4.lset hx hob (hf _ λys=>rfl) (r.ZkK k) ?_,q⟩)
  rw[YZ];omega
 ·rw[Yj]
  refine Yh (List.length_filterMap_le _ _) ?_
  rw[List.length_zipIdx]
  show its.length<=sizeLine+1
  omega
end
theorem ZS.unique {f:Nat->Int}{p q q':Nat} (h:ZS f p q) (k:ZS f p q'):q=q':=by
 rcases Nat.lt_trichotomy q q' with z|z|z
 ·have:=h.2.2 q' z k.1;have:=k.2.1;omega
 ·exact z
 ·have:=k.2.2 q z h.1;have:=h.2.1;omega
theorem ZO.unique {f:Nat->Int}{n p r r':Nat} (h:ZO f n p r) (k:ZO f n p r'):r=r':=by
 rcases Nat.lt_trichotomy r r' with z|z|z
 ·have:=k.2.2.2 r h.1 z;have:=h.2.2.1;omega
 ·exact z
 ·have:=h.2.2.2 r' k.1 z;have:=k.2.2.1;omega
theorem ZS.no {f:Nat->Int}{p q:Nat} (h:ZS f p q) (k:ZbA f p):False:=by have:=k q h.1;have:=h.2.1;omega
theorem ZO.no {f:Nat->Int}{n p r:Nat} (h:ZO f n p r) (k:Za2 f n p):False:=by have:=k r h.1 h.2.1;have:=h.2.2.1;omega
theorem Zv.unique {f:Nat->Int}{n p:Nat}{e e':Int} (h:Zv f n p e) (k:Zv f n p e'):e=e':=by
 rcases h with⟨h1,h2,h3⟩|⟨q,h1,h2,h3⟩|⟨r,h1,h2,h3⟩|⟨q,r,h1,h2,h3⟩ <;>
 rcases k with⟨k1,k2,k3⟩|⟨q',k1,k2,k3⟩|⟨r',k1,k2,k3⟩|⟨q',r',k1,k2,k3⟩
 ·rw[h3,k3]
 ·exact(k1.no h1).elim
 ·exact(k2.no h2).elim
 ·exact(k1.no h1).elim
 ·exact(h1.no k1).elim
 ·rw[h3,k3,h1.unique k1]
 ·exact(h1.no k1).elim
 ·exact(k2.no h2).elim
 ·exact(h2.no k2).elim
 ·exact(k1.no h1).elim
 ·rw[h3,k3,h2.unique k2]
 ·exact(k1.no h1).elim
 ·exact(h1.no k1).elim
 ·exact(h2.no k2).elim
 ·exact(h1.no k1).elim
 ·rw[h3,k3,h1.unique k1,h2.unique k2]
noncomputable def Zk (ns:List Int) (es:List Int):Prop:=es.length=ns.length/\∀p,p<ns.length->Zv (nth ns) ns.length p (es.getD p 0)
theorem Zk.unique {ns es es':List Int} (h:Zk ns es) (k:Zk ns es'):es=es':=by
 refine List.ext_getElem (by rw[h.1,k.1]) λj h1 h2=>?_
 have hj:j<ns.length:=by rw[<-h.1];exact h1
 have:=(h.2 j hj).unique (k.2 j hj)
 simpa[Yr,h1,h2]using this
theorem ZhH {f:Nat->Int}{n p:Nat} (hp:p<n):Zv f n p
  (match ((List.range p).filter λq=>decide (f q<=f p)).getLast?,((List.range (n-(p+1))).filter λj=>decide (f (p+1+j)<f p)).head? with
   |none,none=>-1
   |none,some j=>((p+1+j:Nat):Int)
   |some q,none=>q
   |some q,some j=>if f q<=f (p+1+j)then ((p+1+j:Nat):Int)else q):=by
 have hA:(((List.range p).filter λq=>decide (f q<=f p)).getLast?=none/\ZbA f p)\/∃q,((List.range p).filter λq=>decide (f q<=f p)).getLast?=some q/\ZS f p q:=by
  induction p with
  |zero=>exact .inl ⟨rfl,λq hq=>by omega⟩
  |succ p _ =>
   generalize p+1=P
   have key:∀m,m<=P->(((List.range m).filter λq=>decide (f q<=f P)).getLast?=none/\∀q,q<m->f P<f q)\/∃q,((List.range m).filter λq=>decide (f q<=f P)).getLast?=some q/\q<m/\f q<=f P/\∀r,q<r->r<m->f P<f r:=by
    intro m
    induction m with
    |zero=>intro _;exact .inl ⟨rfl,λq hq=>by omega⟩
    |succ m ih =>
     intro hm
     rw[YS,List.filter_append]
     by_cases hle:f m<=f P
     ·refine .inr ⟨m,?_,by omega,hle,λr r1 r2=>by omega⟩
      simp[hle]
     ·have e:List.filter (λq=>decide (f q<=f P)) [m]=[]:=by simp[hle]
      rw[e,List.append_nil]
      rcases ih (by omega)with⟨i1,i2⟩|⟨q,i1,i2,i3,i4⟩
      ·refine .inl ⟨i1,λq hq=>?_⟩
       by_cases z:q=m
       ·rw[z];omega
       ·exact i2 q (by omega)
      ·refine .inr ⟨q,i1,by omega,i3,λr r1 r2=>?_⟩
       by_cases z:r=m
       ·rw[z];omega
       ·exact i4 r r1 (by omega)
   rcases key P (Yd _)with⟨i1,i2⟩|⟨q,i1,i2,i3,i4⟩
   ·exact .inl ⟨i1,i2⟩
   ·exact .inr ⟨q,i1,i2,i3,i4⟩
 have hB:(((List.range (n-(p+1))).filter λj=>decide (f (p+1+j)<f p)).head?=none/\Za2 f n p)\/∃j,((List.range (n-(p+1))).filter λj=>decide (f (p+1+j)<f p)).head?=some j/\ZO f n p (p+1+j):=by
  have key:∀m,(((List.range m).filter λj=>decide (f (p+1+j)<f p)).head?=none/\∀j,j<m->f p<=f (p+1+j))\/∃j,((List.range m).filter λj=>decide (f (p+1+j)<f p)).head?=some j/\j<m/\f (p+1+j)<f p/\∀i,i<j->f p<=f (p+1+i):=by
   intro m
   induction m with
   |zero=>exact .inl ⟨rfl,λq hq=>by omega⟩
   |succ m ih =>
    rw[YS,List.filter_append]
    rcases ih with⟨i1,i2⟩|⟨j,i1,i2,i3,i4⟩
    ·have e0:List.filter (λj=>decide (f (p+1+j)<f p)) (List.range m)=[]:=List.head?_eq_none_iff.mp i1
     rw[e0,List.nil_append]
     by_cases hlt:f (p+1+m)<f p
     ·refine .inr ⟨m,by simp[hlt],by omega,hlt,λi hi=>i2 i hi⟩
     ·refine .inl ⟨by simp[hlt],λj hj=>?_⟩
      by_cases z:j=m
      ·rw[z];omega
      ·exact i2 j (by omega)
    ·refine .inr ⟨j,?_,by omega,i3,i4⟩
     rw[List.head?_append,i1];rfl
  rcases key (n-(p+1))with⟨i1,i2⟩|⟨j,i1,i2,i3,i4⟩
  ·refine .inl ⟨i1,λr r1 r2=>?_⟩
   have:=i2 (r-(p+1)) (by omega)
   have e:p+1+(r-(p+1))=r:=by omega
   rw[e]at this;exact this
  ·refine .inr ⟨j,i1,by omega,by omega,i3,λs s1 s2=>?_⟩
   have:=i4 (s-(p+1)) (by omega)
   have e:p+1+(s-(p+1))=s:=by omega
   rw[e]at this;exact this
 rcases hA with⟨a1,a2⟩|⟨q,a1,a2⟩<;>rcases hB with⟨b1,b2⟩|⟨j,b1,b2⟩<;>rw[a1,b1]
 ·exact .inl ⟨a2,b2,rfl⟩
 ·exact .inr (.inr (.inl ⟨_,a2,b2,rfl⟩))
 ·exact .inr (.inl ⟨_,a2,b2,rfl⟩)
 ·exact .inr (.inr (.inr ⟨_,_,a2,b2,rfl⟩))
end L2
namespace L2
noncomputable def Over (f:Nat->Int) (o p:Nat):Prop:=(o<p/\∀r,o<r->r<=p->f o<=f r)\/(p<o/\∀r,p<=r->r<o->f o<f r)
theorem Over.irrefl {f:Nat->Int}{p:Nat}:¬ Over f p p:=by rintro(⟨h,_⟩|⟨h,_⟩)<;>omega
theorem Over.ne {f:Nat->Int}{o p:Nat} (h:Over f o p):o≠p:=λz=>Over.irrefl (z▸h)
theorem Over.trans {f:Nat->Int}{o e p:Nat} (h:Over f o e) (k:Over f e p):Over f o p:=by
 rcases h with⟨h1,h2⟩|⟨h1,h2⟩<;>rcases k with⟨k1,k2⟩|⟨k1,k2⟩
 ·refine .inl ⟨by omega,λr r1 r2=>?_⟩
  by_cases z:r<=e
  ·exact h2 r r1 z
  ·have:=k2 r (by omega) r2;have:=h2 e h1 (Yd _);omega
 ·have he:=h2 e h1 (Yd _)
  rcases Nat.lt_trichotomy o p with z|z|z
  ·exact .inl ⟨z,λr r1 r2=>h2 r r1 (by omega)⟩
  ·have:=k2 p (Yd _) k1;subst z;omega
  ·exact .inr ⟨z,λr r1 r2=>by have:=k2 r r1 (by omega);omega⟩
 ·have he:=h2 e (Yd _) h1
  rcases Nat.lt_trichotomy o p with z|z|z
  ·exact .inl ⟨z,λr r1 r2=>by have:=k2 r (by omega) r2;omega⟩
  ·have:=k2 p k1 (Yd _);subst z;omega
  ·exact .inr ⟨z,λr r1 r2=>h2 r (by omega) r2⟩
 ·refine .inr ⟨by omega,λr r1 r2=>?_⟩
  by_cases z:r<e
  ·have:=k2 r r1 z;have:=h2 e (Yd _) h1;omega
  ·exact h2 r (by omega) r2
theorem ZbB {f:Nat->Int}{n p:Nat}{e:Int} (hp:p<n) (h:Zv f n p e):e=-1\/∃q:Nat,e=q/\q<n/\Over f q p:=by
 have pv:∀q,ZS f p q->Over f q p:=λq h=>.inl ⟨h.1,λr r1 r2=>by
  by_cases z:r=p
  ·rw[z];exact h.2.1
  ·have:=h.2.2 r r1 (by omega);have:=h.2.1;omega⟩
 have nx:∀q,ZO f n p q->Over f q p:=λq h=>.inr ⟨h.1,λr r1 r2=>by
  by_cases z:r=p
  ·rw[z];exact h.2.2.1
  ·have:=h.2.2.2 r (by omega) r2;have:=h.2.2.1;omega⟩
 rcases h with⟨_,_,h⟩|⟨q,h1,_,h⟩|⟨r,_,h1,h⟩|⟨q,r,h1,h2,h⟩
 ·exact .inl h
 ·exact .inr ⟨q,h,by have:=h1.1;omega,pv q h1⟩
 ·exact .inr ⟨r,h,h1.2.1,nx r h1⟩
 ·by_cases z:f q<=f r
  ·rw[Yc z]at h;exact .inr ⟨r,h,h2.2.1,nx r h2⟩
  ·rw[Ya z]at h;exact .inr ⟨q,h,by have:=h1.1;omega,pv q h1⟩
theorem ZgA {f:Nat->Int}{n p o:Nat}{e:Int} (hp:p<n) (ho:o<n) (h:Zv f n p e) (hO:Over f o p):∃q:Nat,e=q/\q<n/\(o=q\/Over f o q):=by
 rcases hO with⟨o1,o2⟩|⟨o1,o2⟩
 ·have op:=o2 p o1 (Yd _)
  have pv:∀q,ZS f p q->o=q\/(o<q/\Over f o q/\f o<=f q):=λq h=>by
   rcases Nat.lt_trichotomy o q with z|z|z
   ·have:=h.1;exact .inr ⟨z,.inl ⟨z,λr r1 r2=>o2 r r1 (by omega)⟩,o2 q z (by omega)⟩
   ·exact .inl z
   ·have:=h.2.2 o z o1;omega
  rcases h with⟨h1,_,h⟩|⟨q,h1,_,h⟩|⟨r,h1,_,h⟩|⟨q,r,h1,h2,h⟩
  ·have:=h1 o o1;omega
  ·refine⟨q,h,by have:=h1.1;omega,?_⟩
   rcases pv q h1 with z|z
   ·exact .inl z
   ·exact .inr z.2.1
  ·have:=h1 o o1;omega
  ·by_cases z:f q<=f r
   ·rw[Yc z]at h
    refine⟨r,h,h2.2.1,.inr (.inl ⟨by have:=h2.1;omega,λs s1 s2=>?_⟩)⟩
    by_cases sp:s<=p
    ·exact o2 s s1 sp
    ·by_cases sr:s=r
     ·rw[sr]
      rcases pv q h1 with y|y
      ·rw[y];exact z
      ·have:=y.2.2;omega
     ·have:=h2.2.2.2 s (by omega) (by omega);omega
   ·rw[Ya z]at h
    refine⟨q,h,by have:=h1.1;omega,?_⟩
    rcases pv q h1 with z|z
    ·exact .inl z
    ·exact .inr z.2.1
 ·have op:=o2 p (Yd _) o1
  have nx:∀r,ZO f n p r->o=r\/(r<o/\Over f o r/\f o<f r):=λr h=>by
   rcases Nat.lt_trichotomy o r with z|z|z
   ·have:=h.2.2.2 o o1 z;omega
   ·exact .inl z
   ·have:=h.1;exact .inr ⟨z,.inr ⟨z,λs s1 s2=>o2 s (by omega) s2⟩,o2 r (by omega) z⟩
  rcases h with⟨_,h1,h⟩|⟨q,_,h1,h⟩|⟨r,_,h1,h⟩|⟨q,r,h1,h2,h⟩
  ·have:=h1 o o1 ho;omega
  ·have:=h1 o o1 ho;omega
  ·refine⟨r,h,h1.2.1,?_⟩
   rcases nx r h1 with z|z
   ·exact .inl z
   ·exact .inr z.2.1
  ·by_cases z:f q<=f r
   ·rw[Yc z]at h
    refine⟨r,h,h2.2.1,?_⟩
    rcases nx r h2 with z|z
    ·exact .inl z
    ·exact .inr z.2.1
   ·rw[Ya z]at h
    refine⟨q,h,by have:=h1.1;omega,.inr (.inr ⟨by have:=h1.1;omega,λs s1 s2=>?_⟩)⟩
    by_cases sp:p<=s
    ·exact o2 s sp s2
    ·by_cases sq:s=q
     ·rw[sq]
      rcases nx r h2 with y|y
      ·rw[y];omega
      ·have:=y.2.2;omega
     ·have:=h1.2.2 s (by omega) (by omega);omega
theorem Zfv {f:Nat->Int}{n p o q:Nat} (hp:p<n) (ho:o<n) (h:Zv f n p (q:Int)):Over f o p↔o=q\/Over f o q:=by
 refine⟨λk=>?_,λk=>?_⟩
 ·obtain⟨q',e,_,z⟩:=ZgA hp ho h k
  have:q'=q:=by omega
  rw[this]at z;exact z
 ·rcases ZbB hp h with z|⟨q',e,_,z⟩
  ·omega
  ·have:q'=q:=by omega
   rw[this]at z
   rcases k with k|k
   ·rw[k];exact z
   ·exact k.trans z
theorem Zdl {f:Nat->Int}{n p o:Nat} (hp:p<n) (ho:o<n) (h:Zv f n p (-1)):¬ Over f o p:=λk=>by
 obtain⟨q',e,_,z⟩:=ZgA hp ho h k
 omega
theorem Zfw {P Q:Nat->Bool}:∀n,(∀o,o<n->P o=Q o)->(List.range n).countP P=(List.range n).countP Q
 |0,_=>rfl
 |n+1,h=>by
  rw[YS,List.countP_append,List.countP_append,Zfw n (λo ho=>h o (by omega))]
  simp[List.countP_cons,h n (by omega)]
theorem ZdL {P Q:Nat->Bool}{e:Nat}:∀n,e<n->(∀o,o<n->(P o=true↔o=e\/Q o=true))->Q e=false->(List.range n).countP P=(List.range n).countP Q+1
 |0,h,_,_=>by omega
 |n+1,h,hi,hq=>by
  rw[YS,List.countP_append,List.countP_append]
  by_cases z:e=n
  ·have e1:(List.range n).countP P=(List.range n).countP Q:=Zfw n λo ho=>by
    have:=hi o (by omega)
    cases hP:P o<;>cases hQ:Q o<;>simp[hP,hQ]at this<;>first|rfl|omega
   have hPn:P n=true:=(hi n (by omega)).mpr (.inl z.symm)
   rw[z]at hq
   rw[e1];simp[List.countP_cons,hPn,hq]
  ·rw[ZdL n (by omega) (λo ho=>hi o (by omega)) hq]
   have:=hi n (by omega)
   have hn:P n=Q n:=by
    cases hP:P n<;>cases hQ:Q n<;>simp[hP,hQ]at this<;>first|rfl|omega
   simp[List.countP_cons,hn];omega
theorem ZkN {P:Nat->Bool}{e n:Nat} (he:e<n) (h:P e=false):(List.range n).countP P<n:=by
 have h1:=ZdL (P:=λo=>decide (o=e)||P o) (Q:=P) n he (λo _=>by simp) h
 have h2:=List.countP_le_length (p:=λo=>decide (o=e)||P o) (l:=List.range n)
 rw[h1,Y5]at h2
 omega
noncomputable def ZdM (T:List Int):Nat->Int->List Nat
 |0,_=>[]
 |k+1,at_=>if 0<=at_/\at_<T.length then at_.toNat::ZdM T k (nth T at_.toNat)else []
open Classical in
noncomputable def dep (f:Nat->Int) (n p:Nat):Nat:=(List.range n).countP λo=>decide (Over f o p)
theorem ZkO {f:Nat->Int}{n p:Nat} (hp:p<n):dep f n p<n:=by
 classical
 exact ZkN hp (by simpa using Over.irrefl)
theorem Zeu {f:Nat->Int}{n p q:Nat} (hp:p<n) (h:Zv f n p (q:Int)):dep f n p=dep f n q+1:=by
 classical
 have hq:q<n:=by
  rcases ZbB hp h with z|⟨q',e,z,_⟩<;>omega
 exact ZdL n hq (λo ho=>by simpa using Zfv hp ho h) (by simpa using Over.irrefl)
theorem ZmC {f:Nat->Int}{n p:Nat} (hp:p<n) (h:Zv f n p (-1)):dep f n p=0:=by
 classical
 unfold dep
 rw[List.countP_eq_zero]
 intro o ho
 simpa using Zdl hp (by simpa using ho) h
theorem Zfx {ns T:List Int} (hT:Zk ns T):∀k p,p<ns.length->dep (nth ns) ns.length p<=k->(∀o,o∈ZdM T k (nth T p)↔o<ns.length/\Over (nth ns) o p)/\(ZdM T k (nth T p)).length=dep (nth ns) ns.length p
 |k,p,hp,hk=>by
  have hE:Zv (nth ns) ns.length p (nth T p):=hT.2 p hp
  rcases ZbB hp hE with z|⟨q,e,hq,hO⟩
  ·have e0:ZdM T k (nth T p)=[]:=by
    cases k with
    |zero=>rfl
    |succ k=>rw[ZdM,Ya (by omega)]
   rw[e0]
   rw[z]at hE
   exact⟨λo=>⟨λh=>by simp at h,λh=>absurd h.2 (Zdl hp h.1 hE)⟩,by rw[ZmC hp hE];rfl⟩
  ·rw[e]at hE
   have hd:=Zeu hp hE
   obtain⟨k',rfl⟩:∃k',k=k'+1:=⟨k-1,by omega⟩
   have ih:=Zfx hT k' q hq (by omega)
   have eT:((q:Nat):Int).toNat=q:=by omega
   rw[ZdM,e,Yc ⟨by omega,by rw[hT.1];omega⟩,eT]
   refine⟨λo=>?_,by simp[ih.2,hd]⟩
   rw[Yl,ih.1 o]
   refine⟨λh=>?_,λh=>?_⟩
   ·rcases h with h|h
    ·rw[h];exact⟨hq,hO⟩
    ·exact⟨h.1,h.2.trans hO⟩
   ·rcases(Zfv hp h.1 hE).mp h.2 with z|z
    ·exact .inl z
    ·exact .inr ⟨h.1,z⟩
end L2
namespace L2
open PySem PySem.Spec PyProof.Rows PySem.W
noncomputable def Ze4 (es:List Int) (A B:List Nat) (i:Nat):List Int:=match A.getLast? with
 |some q=>(match B.head? with|some b=>es.set b i|none=>es).set i (q:Int)
 |none=>match B.head? with|some b=>es.set b i|none=>es
noncomputable def Zz (l:List Nat):List V:=l.map λq=>V.int (q:Nat)
theorem Zd2 (l:List Int) (a p:Nat) (v:Int) (h:p<l.length):(l.set a v).getD p 0=if a=p then v else l.getD p 0:=by
 rw[Yr,Yr]
 by_cases e:a=p
 ·subst e;rw[Yc rfl,List.getElem?_set_self h];rfl
 ·rw[Ya e,List.getElem?_set_ne e]
theorem ZkP (es:List Int) (A B:List Nat) (i:Nat):(Ze4 es A B i).length=es.length:=by
 unfold Ze4
 cases A.getLast?<;>cases B.head?<;>simp
theorem Zi9 (es:List Int) (A B:List Nat) (i p:Nat) (hp:p<es.length) (hb:∀b,B.head?=some b->b≠i):(Ze4 es A B i).getD p 0=if p=i then (match A.getLast? with|some q=>(q:Int)|none=>es.getD i 0)else if B.head?=some p then (i:Int)else es.getD p 0:=by
 unfold Ze4
 cases hA:A.getLast? with
 |none =>
  cases hB:B.head? with
  |none =>
   by_cases e:p=i
   ·rw[Yc e,e]
   ·rw[Ya e,Ya (by simp)]
  |some b =>
   show(es.set b i).getD p 0=_
   rw[Zd2 _ _ _ _ hp]
   by_cases e:p=i
   ·rw[Yc e,Ya (by rw[e];exact hb b hB),e]
   ·rw[Ya e]
    by_cases e2:b=p
    ·rw[Yc e2,Yc (by rw[e2])]
    ·rw[Ya e2,Ya (by intro z;exact e2 (YA z))]
 |some q =>
  cases hB:B.head? with
  |none =>
   show(es.set i q).getD p 0=_
   rw[Zd2 _ _ _ _ hp]
   by_cases e:p=i
   ·rw[Yc e,Yc e.symm]
   ·rw[Ya e,Ya (λz=>e z.symm),Ya (by simp)]
  |some b =>
   show((es.set b i).set i q).getD p 0=_
   rw[Zd2 _ _ _ _ (by simpa using hp),Zd2 _ _ _ _ hp]
   by_cases e:p=i
   ·rw[Yc e,Yc e.symm]
   ·rw[Ya e,Ya (λz=>e z.symm)]
    by_cases e2:b=p
    ·rw[Yc e2,Yc (by rw[e2])]
    ·rw[Ya e2,Ya (by intro z;exact e2 (YA z))]
theorem ZkQ:∀(l:List Nat) (i lo:Nat),l.Pairwise (· < ·)->(∀q∈l,lo<=q/\q<i)->l.length+lo<=i\/l=[]
 |[],_,_,_,_=>.inr rfl
 |q::r,i,lo,h,hq=>by
  have h1:=hq q (by simp)
  have hr:=Y1.mp h
  rcases ZkQ r i (q+1) hr.2 (λx hx=>⟨hr.1 x hx,(hq x (by simp[hx])).2⟩)with z|z
  ·left;simp;omega
  ·left;rw[z];simp;omega
theorem ZT (l:List Nat):(Zz l).length=l.length:=by simp[Zz]
theorem Zev (a b:List Nat):Zz (a++b)=Zz a++Zz b:=by simp[Zz]
theorem Zd3 {l:List Nat}{j q:Nat} (h:l[j]?=some q):atI (Zz l) (j:Int)=some (V.int (q:Nat)):=by
 have hj:=(Yk.mp h).1
 have e:=(Yk.mp h).2
 rw[Zg3 rfl (by rw[ZT];exact hj)]
 simp[Zz,e]
theorem Zfk {n j:Nat} (h:j<n):ixN n (j:Int)=some j:=by
 unfold ixN
 rw[Yc (by omega),Yc (by omega)];simp
noncomputable def ZgB (T:List Int):Prop:=T.length<=40/\∃ns,Zk ns T
theorem Zay {a b:TS}{D:Ends}{σ:St}{H:Hp} (Mid:St->Hp->Prop) (h1:∀R:St->Hp->Prop,(∀σ' H',Mid σ' H'->R σ' H')->a {D with nx:=R} σ H) (h2:∀σ' H',Mid σ' H'->b D σ' H'):tSeq a b D σ H:=h1 _ h2
theorem Zg5 (xs:List V) (j:Nat):Zcl xs none (some (j:Int))=xs.take j:=by
 have h:¬ ((j:Int)<0):=by omega
 unfold Zcl HT.sIx
 simp only[Ya h,List.drop_zero,Nat.sub_zero]
 rw[List.take_eq_take_iff]
 omega
end L2
namespace L2
open PySem PySem.Spec PyProof.Rows
structure CellsOf (cl:List (Str×Addr)) (n0:Nat) (cs:List (Str×Addr)) (h0 h:Heap) (done:List (Str×NameKind)):Prop where
 old:∀b o,h0.get? b=some o->h.get? b=some o
 sz:n0<=h.objs.size
 mem:∀p∈cs,p∈cl\/(n0<=p.2/\p.2<h.objs.size/\h.IsCell p.2 none)
 inj:∀p∈cs,∀q∈cs,n0<=p.2->p.2=q.2->p.1=q.1
 own:∀y∈done,y.2=.cell->∃c,cs.lookup y.1=some c/\n0<=c
 oth:∀x,(∀y∈done,y.2=.cell->y.1≠x)->cs.lookup x=cl.lookup x
theorem Zew {M:Model}{A:Around}{E:Value->Shared->Prop}{cl:List (Str×Addr)}{n0:Nat}{h0:Heap} (hcl:∀p∈cl,p.2<n0):∀(names:List (Str×NameKind)) (cs:List (Str×Addr)) (done:List (Str×NameKind)) (s:Shared),CellsOf cl n0 cs h0 s.heap done ->
  wpAny M A (forIn names cs λ(x:Str×NameKind) (r:List (Str×Addr))=>(match x with
   |(name,kind)=>if (kind==NameKind.cell)=true then do
     let a <-alloc {cls:=.type "cell",data:=.cell none}
     pure (ForInStep.yield ((name,a)::r))
    else pure (ForInStep.yield r):Sem (ForInStep (List (Str×Addr))))) (λcs' s'=>∃h',s'={s with heap:=h'}/\CellsOf cl n0 cs' h0 h' (done++names)) E s
 |[],cs,done,s,I=>by
  rw[List.forIn_nil,List.append_nil]
  exact Yg ⟨s.heap,rfl,I⟩
 |(n,k)::r,cs,done,s,I=>by
  rw[List.forIn_cons]
  by_cases hk:k=.cell
  ·subst hk
   simp only[beq_self_eq_true,if_true]
   refine Yb (Yb (wpAny_alloc (Yg ?_)))
   have hget:(s.heap.push {cls:=.type "cell",data:=.cell none}).get? s.heap.objs.size=some {cls:=.type "cell",data:=.cell none}:=Yz _ rfl
   have I':CellsOf cl n0 ((n,s.heap.objs.size)::cs) h0 (s.heap.push {cls:=.type "cell",data:=.cell none}) (done++[(n,.cell)]):=by
    refine⟨λb o e=>Ym _ (I.old b o e),by rw[Heap.size_push];exact Nat.le_succ_of_le I.sz,λp hp=>?_,λp hp q hq hn e=>?_,λy hy hc=>?_,λx hx=>?_⟩
    ·rcases Yl.mp hp with z|z
     ·subst z
      exact .inr ⟨I.sz,by rw[Heap.size_push];exact Nat.lt_succ_self _,_,hget,rfl⟩
     ·rcases I.mem p z with w|⟨w1,w2,o,w3,w4⟩
      ·exact .inl w
      ·exact .inr ⟨w1,by rw[Heap.size_push];exact YU w2,o,Ym _ w3,w4⟩
    ·have lt:∀p∈cs,p.2<s.heap.objs.size:=λp hp=>by
      rcases I.mem p hp with w|w
      ·exact Yp (hcl p w) I.sz
      ·exact w.2.1
     rcases Yl.mp hp with z|z<;>rcases Yl.mp hq with z'|z'
     ·rw[z,z']
     ·subst z;exact absurd (show s.heap.objs.size<s.heap.objs.size from(show s.heap.objs.size=q.2 from e)▸lt q z') (YE _)
     ·subst z';exact absurd (show s.heap.objs.size<s.heap.objs.size from(show p.2=s.heap.objs.size from e)▸lt p z) (YE _)
     ·exact I.inj p z q z' hn e
    ·rcases Yq.mp hy with z|z
     ·obtain⟨c,e1,e2⟩:=I.own y z hc
      by_cases hx:y.1=n
      ·exact⟨s.heap.objs.size,by rw[hx];simp,I.sz⟩
      ·have hb:(y.1==n)=false:=by simpa using hx
       exact⟨c,by simp only[List.lookup_cons,hb];exact e1,e2⟩
     ·have:y=(n,.cell):=by simpa using z
      subst this
      exact⟨s.heap.objs.size,by simp,I.sz⟩
    ·have hxn:n≠x:=hx (n,.cell) (by simp) rfl
     have hb:(x==n)=false:=by simpa using hxn.symm
     simp only[List.lookup_cons,hb]
     exact I.oth x λy hy=>hx y (YJ _ hy)
   refine thn (Zew hcl r _ _ {s with heap:=s.heap.push {cls:=.type "cell",data:=.cell none}} I') λcs' s' ⟨h',e1,e2⟩=>⟨h',e1,?_⟩
   rw[YD]at e2
   exact e2
  ·have e1:(k==NameKind.cell)=false:=by cases k<;>first|rfl|exact absurd rfl hk
   simp only[e1,Bool.false_eq_true,if_false]
   refine Yb (Yg ?_)
   have I':CellsOf cl n0 cs h0 s.heap (done++[(n,k)]):=by
    refine⟨I.old,I.sz,I.mem,I.inj,λy hy hc=>?_,λx hx=>I.oth x λy hy=>hx y (YJ _ hy)⟩
    rcases Yq.mp hy with z|z
    ·exact I.own y z hc
    ·have:y=(n,k):=by simpa using z
     subst this
     exact absurd hc hk
   refine thn (Zew hcl r _ _ s I') λcs' s' ⟨h',e1,e2⟩=>⟨h',e1,?_⟩
   rw[YD]at e2
   exact e2
theorem Ziz {M:Model}{A:Around}{E:Value->Shared->Prop}{s:Shared}{scope:Scope}{globals:Addr}{cl:List (Str×Addr)}{qual:Str}{around:Env}{Q:Env->Shared->Prop} (hcl:∀p∈cl,p.2<s.heap.objs.size)
  (h:∀cs h',CellsOf cl (s.heap.objs.size+1) cs (s.heap.push {cls:=.type "dict",data:=.dict #[]}) h' scope.names->Q {scope:=scope,locals:=s.heap.objs.size,globals:=globals,cells:=cs,qual:=qual,func:=none,code:=around.code,frame:=around.frame,builtins:=around.builtins} {s with heap:=h'}) :
  wpAny M A (newFunctionEnv scope globals cl [] qual none .none (some around)) Q E s:=by
 unfold newFunctionEnv
 refine Yb (wpAny_alloc ?_)
 refine Yb (thn (Zew (cl:=cl) (n0:=s.heap.objs.size+1) (h0:=s.heap.push {cls:=.type "dict",data:=.dict #[]}) (λp hp=>YU (hcl p hp)) scope.names cl [] {s with heap:=s.heap.push {cls:=.type "dict",data:=.dict #[]}} ⟨λb o e=>e,by rw[Heap.size_push];exact Yd _,λp hp=>.inl hp,λp hp q hq hn e=>absurd (hcl p hp) (Nat.not_lt_of_le (Nat.le_of_succ_le hn)),λy hy=>(nomatch hy),λx hx=>rfl⟩) λcs s' ⟨h',e1,e2⟩=>?_)
 subst e1
 rw[List.nil_append]at e2
 exact Yb (Yg (Yg (h cs h' e2)))
noncomputable def ZaP (around scope:Scope):Bool :=
 scope.kind==.function&&around.kind==.function&&scope.names.all λy=>match y.2 with
  |.local=>scope.names.lookup y.1==some .local
  |.cell=>scope.names.lookup y.1==some .cell
  |.free=>(scope.names.lookup y.1==some .free)&&(around.names.lookup y.1==some .cell||around.names.lookup y.1==some .free)
  |_=>true
theorem Zd4 {a s:Scope} (h:ZaP a s=true):s.kind=.function:=by
 simp only[ZaP,Bool.and_eq_true,beq_iff_eq]at h;exact h.1.1
theorem ZdN {a s:Scope} (h:ZaP a s=true) {y:Str×NameKind} (hy:y∈s.names):(match y.2 with
  |.local=>s.names.lookup y.1==some .local
  |.cell=>s.names.lookup y.1==some .cell
  |.free=>(s.names.lookup y.1==some .free)&&(a.names.lookup y.1==some .cell||a.names.lookup y.1==some .free)
  |_=>true)=true:=by
 simp only[ZaP,Bool.and_eq_true]at h
 exact List.all_eq_true.mp h.2 y hy
theorem Zf2 {a s:Scope} (h:ZaP a s=true):∀y∈s.names,y.2=.local->s.names.lookup y.1=some .local:=λy hy e=>by
 have q:=ZdN h hy
 rw[e]at q
 exact beq_iff_eq.mp q
theorem Zg6 {a s:Scope} (h:ZaP a s=true):∀y∈s.names,y.2=.cell->s.names.lookup y.1=some .cell:=λy hy e=>by
 have q:=ZdN h hy
 rw[e]at q
 exact beq_iff_eq.mp q
theorem Zcp {a s:Scope} (h:ZaP a s=true):∀y∈s.names,y.2=.free->s.names.lookup y.1=some .free/\(a.names.lookup y.1=some .cell\/a.names.lookup y.1=some .free):=λy hy e=>by
 have q:=ZdN h hy
 rw[e]at q
 simp only[Bool.and_eq_true,Bool.or_eq_true,beq_iff_eq]at q
 exact q
noncomputable def Zam (X:Cx) (Nc:List Str) (scope:Scope) (cs:List (Str×Addr)) (C:Addr) (s2:Shared) (H2:Hp) (fp:List Addr):Cx :=
 {ZkB X Nc scope cs C s2 H2 fp with fn:=λx=>scope.names.lookup x==some .cell}
theorem ZhI {env:Env}{scope:Scope} (h:∀y∈scope.names,y.2=.free->∃c,env.cells.lookup y.1=some c) :
  ∃cl,closureFor scope env=pure cl/\(∀p∈cl,env.cells.lookup p.1=some p.2)/\(∀y∈scope.names,y.2=.free->∃c,cl.lookup y.1=some c/\env.cells.lookup y.1=some c):=by
 obtain⟨cl,e,h1,h2,h3⟩:=ZdI (env:=env) scope.names [] h
 have up:∀p∈cl,env.cells.lookup p.1=some p.2:=λp q=>by
  rcases h1 _ q with z|z
  ·cases z
  ·exact z
 refine⟨cl,?_,up,λy hy hf=>?_⟩
 ·unfold closureFor
  simp only[bind_pure_comp]at e⊢
  rw[e]
  exact pure_bind _ _
 ·obtain⟨c,hc⟩:=h3 y hy hf
  cases q:cl.lookup y.1 with
  |none=>exact absurd (List.lookup_eq_none_iff.mp q _ hc) (by simp)
  |some c'=>exact⟨c',rfl,up _ (PySem.mem_of_lookup q)⟩
section
variable {X:Cx}
theorem ZhJ {pins:List (Addr×Obj)}{σ:St}{H2:Hp}{s2:Shared}{Nc:List Str}{js:List (Option Nat)}{scope:Scope}{cs:List (Str×Addr)}{fp:List Addr}{h1:Heap}{tk:Nat}{D C:Addr}{oD:Obj}{m:Str->Option Value}
  (I:Inv X pins σ H2 s2) (hok:ZaP X.env.scope scope=true) (htk:ZaM X.N Nc scope js 0=true) (up:∀x c,cs.lookup x=some c->X.env.cells.lookup x=some c\/(C<c/\h1.IsCell c none)) (hinj:∀x y c,cs.lookup x=some c->cs.lookup y=some c->x=y) (hown:∀y∈scope.names,y.2=.cell->∃c,cs.lookup y.1=some c/\C<c) (hfr:∀y∈scope.names,y.2=.free->∃c,cs.lookup y.1=some c/\X.env.cells.lookup y.1=some c)
  (hfp:∀b∈fp,FpOk X pins H2 b) (hfl:∀b∈fp,b<s2.heap.objs.size) (hD:D=s2.heap.objs.size) (hC:C=s2.heap.objs.size+1) (old:∀b o,s2.heap.get? b=some o->h1.get? b=some o) (hns:h1.Ns C m) (hoD:h1.get? D=some oD) (hdD:∀v,oD.data≠.cell v) :
  Inv (Zam X Nc scope cs C s2 H2 fp) [(D,oD)] (iniC js σ) H2 {s2 with heap:=h1,toks:=tk}:=by
 have leC:s2.heap.objs.size<=C:=by rw[hC];exact Nat.le_succ _
 have leD:s2.heap.objs.size<=D:=Nat.le_of_eq hD.symm
 have kf:∀x,((compEnvC scope cs C X.env).kindOf x=some .cell\/(compEnvC scope cs C X.env).kindOf x=some .free)->∃c,cs.lookup x=some c:=λx hx=>by
  have:∃k,(compEnvC scope cs C X.env).kindOf x=some k/\(k=.cell\/k=.free):=hx.elim (λq=>⟨_,q,.inl rfl⟩) λq=>⟨_,q,.inr rfl⟩
  obtain⟨k,e,hk⟩:=this
  obtain⟨k',h1,h2⟩:=ZaB (show(scope.names.map _).lookup x=some k from e)
  have hm:=lookup_mem h1
  have:k'=.free\/k'=.cell:=by
   rcases h2 with q|q
   ·subst q
    exact hk.symm
   ·exact .inl q.1
  rcases this with z|z
  ·subst z
   obtain⟨c,q,_⟩:=hfr _ hm rfl
   exact⟨c,q⟩
  ·subst z
   obtain⟨c,q,_⟩:=hown _ hm rfl
   exact⟨c,q⟩
 have nC:∀c x,X.env.cells.lookup x=some c->c<s2.heap.objs.size:=λc x e=>by
  obtain⟨v,q⟩:=I.cell x c e
  exact q.lt
 have noB:∀b,b∈fp->b∉frs X.stack:=λb hb q=>by
  rcases Yl.mp (I.Zem b q)with z|z
  ·exact(hfp b hb).2.1 z
  ·exact(hfp b hb).2.2.1 z
 have okX:(Zam X Nc scope cs C s2 H2 fp).Ok:=by
  refine⟨I.ok.mod,(show scope.kind=.function from Zd4 hok),I.ok.glob,I.ok.blt,?_,λx y c e1 e2=>hinj x y c e1 e2,λx hx=>?_,(λx c e1 e2=>?_),I.ok.hd,I.ok.frames,.inl rfl,λb hb=>⟨?_,λx c e=>(up _ _ e).elim (λz=>(hfp b hb).2.2.2.2.1 x c z) λz=>Nat.ne_of_gt (Nat.lt_trans (Yp (hfl b hb) leC) z.1)⟩,I.bs,Yh I.ok.bsz I.sz,λb o e hb=>?_,λb hb=>noB b hb,I.stack,I.ZgO⟩
  ·show s2.heap.objs.size<=C;exact leC
  ·exact kf x hx
  ·have hm:=lookup_mem (beq_iff_eq.mp (show(scope.names.lookup x==some NameKind.cell)=true from e1))
   obtain⟨c',q1,q2⟩:=hown _ hm rfl
   have:c=c':=YA ((show cs.lookup x=some c from e2).symm.trans q1)
   rw[this]
   exact Yh leC (YQ q2)
  ·exact Yo (Yp (hfl b hb) leC)
  ·rcases(hfp b hb).2.2.2.1 with q|q
   ·exact I.ok.noex b o e q
   ·exact absurd (Yp (Yi e) (Yh I.ok.bsz q)) (YE _)
 refine⟨okX,rfl,I.bare,Un.kept old,⟨m,hns,λi x v e1 e2 e3=>?_⟩,λx c e=>?_,I.hok.fresh leC,λx c e=>(up _ _ e).elim (λz=>I.freeC x c z) λz=>I.hok.fresh (Yh leC (YQ z.1)),λp hp=>?_,I.hok.kept old,?_⟩
 ·have e2':(iniC js σ)[i]?=some (some v):=e2
  unfold iniC at e2'
  rw[YK]at e2'
  cases q:js[i]? with
  |none=>rw[q]at e2';cases e2'
  |some j0 =>
   cases j0 with
   |none=>rw[q]at e2';cases e2'
   |some j =>
    rw[q]at e2'
    simp only[Option.map_some,Option.some.injEq]at e2'
    have e4:σ[j]?=some (some v):=by
     cases z:σ[j]? with
     |none=>rw[z]at e2';cases e2'
     |some o=>rw[z]at e2';simp only[Option.join_some]at e2';rw[e2']
    obtain⟨y,y1,y2,y3⟩:=Zes htk q
    rw[Nat.zero_add]at y1
    have:x=y:=YA ((show Nc[i]?=some x from e1).symm.trans y1)
    subst this
    have hm:=lookup_mem y3
    obtain⟨c,c1,c2⟩:=hfr _ hm rfl
    have hk:=(Zcp hok _ hm rfl).2
    obtain⟨m0,hn0,hl0⟩:=I.loc
    obtain⟨u,r,l⟩:=hl0 j x v y2 e4 (hk.elim (λz=>.inr (.inl z)) λz=>.inr (.inr z))
    refine⟨u,r,.inr ⟨?_,c,c1,?_⟩⟩
    ·rcases e3 with z|z|z
     ·obtain⟨k',w1,w2⟩:=ZaB (show(scope.names.map _).lookup x=some NameKind.local from z)
      rw[y3]at w1;cases w1
      rcases w2 with w|w
      ·cases w
      ·cases w.2
     ·exact .inl z
     ·exact .inr z
    ·rcases l with⟨lk,_⟩|⟨_,c',c3,c4⟩
     ·rcases hk with z|z
      ·rw[show X.env.kindOf x=some .cell from z]at lk;cases lk
      ·rw[show X.env.kindOf x=some .free from z]at lk;cases lk
     ·rw[c2]at c3;cases c3
      obtain⟨oc,w1,w2⟩:=c4
      exact⟨oc,old _ _ w1,w2⟩
 ·rcases up _ _ e with z|z
  ·obtain⟨v,oc,w1,w2⟩:=I.cell x c z
   exact⟨v,oc,old _ _ w1,w2⟩
  ·exact⟨_,z.2⟩
 ·have:p=(D,oD):=by
   have hp':p∈([]++[(D,oD)]:List (Addr×Obj)):=hp
   simpa using hp'
  subst this
  refine⟨hoD,I.hok.fresh leD,(by show D≠C;rw[hD,hC];exact Yo (Nat.lt_succ_self _)),λhb=>?_,hdD⟩
  have hb':D∈frs X.stack:=hb
  obtain⟨_,o,ho,_⟩:=I.stack.mem hb'
  exact absurd (Yp (Yi ho) leD) (YE _)
 ·have:=ZdJ htk
  show(iniC js σ).length=Nc.length
  unfold iniC;rw[Yf];omega
theorem ZgC {pins:List (Addr×Obj)}{σ:St}{H:Hp}{s:Shared}{tg elt iter:Expr}{ifs:List Expr}{scope:Scope}{pos:Pos}{wi:TI}{g:TG}{tt:TT}{te:TE}{Nc:List Str}{js:List (Option Nat)}{use:Option (Value->Sem Unit)}{Q:VK}{QQ:Value->Shared->Prop}
  (hc:X.calm=true) (hok:ZaP X.env.scope scope=true) (htk:ZaM X.N Nc scope js 0=true) (hi:PI X tg iter wi)
  (hg:∀cl C s2 H2 fp,PG (Zam X Nc scope cl C s2 H2 fp) tg g) (ht:∀cl C s2 H2 fp,ZjB (Zam X Nc scope cl C s2 H2 fp) ifs tt) (he:∀cl C s2 H2 fp,PE (Zam X Nc scope cl C s2 H2 fp) elt te)
  (hs:∀x,foldedSetIterable iter X.env x=pure x) {L:List Nat} (ho:ZiW g L) (hL:(L.all λk=>js[k]?==some none)=true) (I:Inv X pins σ H s) (h:ZiX wi g tt te js σ H Q)
  (fin:∀(D C:Addr) (H' H2:Hp) (s2 s':Shared) (xs:List V) (m:Str->Option Value),Inv X pins σ H2 s2->H' C=none->C=D+1->D=s2.heap.objs.size->s'.heap.Ns C m->(∀h',Heap.SameBut C s'.heap h'->Inv X pins σ (upd H' D (.lst xs)) {s' with heap:=h'})->Q (.ref D) (upd H' D (.lst xs)) ->
   compPost (model X.prog X.w) X.A X.xe use QQ (.ref D) C (.ok .next) s') :
  wpAny (model X.prog X.w) X.A (comprehension (.ListComp elt [⟨tg,iter,ifs,0⟩] scope pos) scope X.env (firstIterPos [⟨tg,iter,ifs,0⟩] pos) (newList []) false (eval iter X.env) use) QQ X.xe s:=by
 have hcells:∀y∈scope.names,y.2=.free->∃c,X.env.cells.lookup y.1=some c:=λy hy hf=>I.ok.has y.1 (Zcp hok y hy hf).2
 obtain⟨cl,hcl,upM,hfr0⟩:=ZhI hcells
 have hk:=Zd4 hok
 refine wpAny_comprehension_free (use:=use) rfl hs hcl hk (Zf2 hok) (thn (hi pins s σ H _ I h) λv s1 h1=>thn h1 λitv s2 h2=>?_)
 obtain⟨it,fp,tn,J,H2,e,I2,T,st2,f2,W,⟨m0,w0⟩,turn⟩:=h2
 subst e
 have clt:∀p∈cl,p.2<s2.heap.objs.size:=λp hp=>by
  obtain⟨v,q⟩:=I2.cell p.1 p.2 (upM p hp)
  exact q.lt
 refine wpAny_newObj_type (Ziz (λp hp=>?_) λcs h₁ CO=>?_)
 ·show p.2<(s2.heap.push _).objs.size
  rw[Heap.size_push];exact YU (clt p hp)
 dsimp only at CO⊢
 generalize hH2:s2.heap.push {cls:=.type "list",dict:=none,data:=.seq ([]:List Value).toArray}=HH at CO⊢
 have hC:HH.objs.size=s2.heap.objs.size+1:=by rw[<-hH2,Heap.size_push]
 have hcl':∀p∈cl,p.2<HH.objs.size:=λp hp=>by rw[hC];exact YU (clt p hp)
 have hns₁:h₁.Ns HH.objs.size (λ_=>none):=⟨_,#[],_,CO.old _ _ (Yz _ rfl),rfl,λe he=>absurd he (by simp),λn=>rfl⟩
 have up:∀x c,cs.lookup x=some c->X.env.cells.lookup x=some c\/(HH.objs.size<c/\h₁.IsCell c none):=λx c e=>by
  rcases CO.mem _ (PySem.mem_of_lookup e)with z|z
  ·exact .inl (upM _ z)
  ·exact .inr ⟨z.1,z.2.2⟩
 have hinj:∀x y c,cs.lookup x=some c->cs.lookup y=some c->x=y:=λx y c e1 e2=>by
  have m1:=PySem.mem_of_lookup e1
  have m2:=PySem.mem_of_lookup e2
  rcases CO.mem _ m1 with z|z
  ·rcases CO.mem _ m2 with z'|z'
   ·exact I2.ok.inj x y c (upM _ z) (upM _ z')
   ·exact absurd (hcl' _ z) (Nat.not_lt_of_le (Nat.le_of_succ_le z'.1))
  ·exact CO.inj _ m1 _ m2 z.1 rfl
 have hfr:∀y∈scope.names,y.2=.free->∃c,cs.lookup y.1=some c/\X.env.cells.lookup y.1=some c:=λy hy hf=>by
  obtain⟨c,q1,q2⟩:=hfr0 y hy hf
  refine⟨c,?_,q2⟩
  rw[CO.oth y.1 λy' hy' hc' z=>?_]
  ·exact q1
  ·have w1:=Zg6 hok y' hy' hc'
   have w2:=(Zcp hok y hy hf).1
   rw[z,w2]at w1;cases w1
 have hfl:∀b∈fp,b<s2.heap.objs.size:=λb hb=>by
  obtain⟨o,ho,_⟩:=T.obj 0 _ st2 b hb
  exact Yi ho
 have hDC:s2.heap.objs.size≠HH.objs.size:=by rw[hC];exact Yo (Nat.lt_succ_self _)
 have old:∀b o,s2.heap.get? b=some o->h₁.get? b=some o:=λb o e=>CO.old b o (Ym _ (hH2▸Ym _ e))
 have hacc:h₁.get? s2.heap.objs.size=some {cls:=.type "list",dict:=none,data:=.seq ([]:List Value).toArray}:=CO.old _ _ (Ym _ (hH2▸Yz _ rfl))
 have I4:=ZhJ (Nc:=Nc) (js:=js) (tk:=s2.toks) I2 hok htk up hinj (λy hy hc=>CO.own y hy hc) hfr f2 hfl rfl hC old hns₁ hacc (by intro v z;cases z)
 have st4:tn 0 h₁:=T.keep _ _ _ st2 λb _ o e=>old b o e
 generalize hXc:Zam X Nc scope cs HH.objs.size s2 H2 fp=Xc at I4
 have hXA:Xc.A=X.A:=by rw[<-hXc];rfl
 have hXe:Xc.env=compEnvC scope cs HH.objs.size X.env:=by rw[<-hXc];rfl
 have hXp:Xc.prog=X.prog:=by rw[<-hXc];rfl
 have hXw:Xc.w=X.w:=by rw[<-hXc];rfl
 have hXx:Xc.xe=λ_ _=>False:=by rw[<-hXc];rfl
 have hXk:Xc.K=X.K:=by rw[<-hXc];rfl
 have hXcalm:Xc.calm=true:=by rw[<-hXc];exact hc
 have fpok:∀{pl:List (Addr×Obj)}{H':Hp},(∀p∈pl,s2.heap.objs.size<=p.1)->(∀b∈fp,H' b=none)->∀b∈fp,FpOk Xc pl H' b:=λ{pl H'} hpl hn b hb=>by
  have k1:b≠HH.objs.size:=Yo (by rw[hC];exact YU (hfl b hb))
  have k2:b∉frs X.stack:=λq=>by
   rcases Yl.mp (I2.Zem b q)with z|z
   ·exact(f2 b hb).2.1 z
   ·exact(f2 b hb).2.2.1 z
  rw[<-hXc]
  refine⟨hn b hb,k1,k2,.inl hb,λx c e=>(up _ _ e).elim (λz=>(f2 b hb).2.2.2.2.1 x c z) λz=>Nat.ne_of_gt (Nat.lt_trans (by rw[hC];exact YU (hfl b hb)) z.1),λp hp=>?_⟩
  have hp':p∈pl:=by simpa[Zam,ZkB]using hp
  exact Nat.ne_of_gt (Yp (hfl b hb) (hpl p hp'))
 have gX:PG Xc tg g:=hXc▸hg cs HH.objs.size s2 H2 fp
 have tX:ZjB Xc ifs tt:=hXc▸ht cs HH.objs.size s2 H2 fp
 have eX:PE Xc elt te:=hXc▸he cs HH.objs.size s2 H2 fp
 have hs0:Xc.s₀=s2:=by rw[<-hXc];rfl
 have hh0:Xc.H₀=H2:=by rw[<-hXc];rfl
 have hfs:Xc.fs=frs X.stack:=by rw[<-hXc];rfl
 have hex:Xc.ex=fp:=by rw[<-hXc];rfl
 have loop:codeAny (model X.prog X.w) X.A (.compLoop (.ListComp elt [⟨tg,iter,ifs,0⟩] scope pos) 0 (.ref it) (.ref s2.heap.objs.size) (compEnvC scope cs HH.objs.size X.env)) (compPost (model X.prog X.w) X.A X.xe use QQ (.ref s2.heap.objs.size) HH.objs.size)
   {s2 with heap:=h₁,toks:=s2.toks}:=by
  refine ZcZ (λn s'=>∃i acc its nn H',Inv Xc [(s2.heap.objs.size,{cls:=.type "list",dict:=none,data:=.seq (its:List Value).toArray nn})] (iniC js σ) H' s'/\Vals acc its/\acc.length<=sizeLine/\tn i s'.heap/\(∀b∈fp,H' b=none)/\W i n acc H') ?_ m0
   ⟨0,[],[],0,H2,I4,.nil,Yu _,st4,λb hb=>(f2 b hb).1,w0⟩
  rintro n s3 ⟨i,acc,its,nn,H3,I3,va,hlen,st3,fr3,w3⟩
  have pg:∀p∈([(s2.heap.objs.size,{cls:=.type "list",dict:=none,data:=.seq its.toArray nn})]:List (Addr×Obj)),s2.heap.objs.size<=p.1:=λp hp=>by
   simp only[Yl,List.not_mem_nil,or_false]at hp
   subst hp;exact Yd _
  rcases turn i n acc H3 w3 with⟨stop,hl,qn⟩|⟨go,hl,step⟩
  ·have q:=T.done Xc hXp hXw hXk hXcalm i _ s3 (iniC js σ) H3 (λ_ _=>False) I3 (fpok pg fr3) st3 stop
   rw[hXA]at q
   refine thn q λr s4 ⟨hr,I5⟩=>?_
   subst hr
   have hpin:=I5.pin _ (Yt _ (.head _))
   obtain⟨m5,hn5,_⟩:=I5.loc
   rw[hXe]at hn5
   refine fin _ _ H3 H2 s2 s4 acc m5 I2 (by have:=I5.free;rw[hXe]at this;exact this) hC rfl hn5 (λh' hsb=>?_) (qn _ hpin.2.1)
   have same:∀b o,b≠HH.objs.size->s4.heap.get? b=some o->h'.get? b=some o:=λb o hb e=>hsb.extBut b o hb e
   have un:=I5.base
   rw[hfs,hex,hh0,hs0]at un
   have lt:∀b o,s2.heap.get? b=some o->b<s2.heap.objs.size:=λb o e=>Yi e
   have neC:∀b o,s2.heap.get? b=some o->b≠HH.objs.size:=λb o e=>Yo (by rw[hC];exact YU (lt b o e))
   have neD:∀b o,s2.heap.get? b=some o->b≠s2.heap.objs.size:=λb o e=>Yo (lt b o e)
   have trkC:∀b o,H3 b=some o->b≠HH.objs.size:=λb o e z=>by
    have:=I5.free;rw[hXe]at this;rw[z,show H3 HH.objs.size=none from this]at e;cases e
   refine I2.call' (s':={s4 with heap:=h'}) (ch:=fp) (I5.os.trans (by rw[hs0])) ⟨λb o e n hb hx=>same _ _ (neC b o e) (un.keep b o e n hb hx),λb o e n hb hx=>?_,λb o e n hx=>by rw[Zh (neD b o e)];exact un.free b o e n hx,λb o e hx=>?_,λb xs e=>?_,λb o u e=>?_,λb ps e=>?_⟩ (λa o e=>?_) I5.bare λb hb=>⟨(f2 b hb).2.2.2.1,(f2 b hb).2.1,(f2 b hb).2.2.2.2.1,(f2 b hb).2.2.2.2.2⟩
   ·obtain⟨sl,z⟩:=un.slot b o e n hb hx
    exact⟨sl,same _ _ (neC b o e) z⟩
   ·obtain⟨o',z⟩:=un.there b o e hx
    exact⟨o',same _ _ (neC b o e) z⟩
   ·rw[Zh (Yo (I2.hok.lt e))];exact un.tups b xs e
   ·rw[Zh (Yo (I2.hok.lt e))];exact un.frzs b o u e
   ·obtain⟨more,z⟩:=un.tbls b ps e
    exact⟨more,by rw[Zh (Yo (I2.hok.lt e))];exact z⟩
   ·by_cases ha:a=s2.heap.objs.size
    ·subst ha
     rw[Zc]at e;cases e
     exact⟨hl,its,nn,va,same _ _ hDC hpin.1⟩
    ·rw[Zh ha]at e
     have q:=I5.hok a o e
     rw[hXp,hXw]at q
     refine q.ZgM (λb u hb z=>same b u ?_ z) (λb z=>by rw[Zh];exact z;intro y;subst y;rw[hpin.2.1]at z;cases z) (λb xs z=>by rw[Zh];exact z;intro y;subst y;rw[hpin.2.1]at z;cases z) λb o u z=>by rw[Zh];exact z;intro y;subst y;rw[hpin.2.1]at z;cases z
     rcases hb with hb|hb
     ·subst hb;exact trkC _ _ e
     ·exact trkC _ _ hb
  ·have q:=T.item Xc hXp hXw hXk hXcalm i _ s3 (iniC js σ) H3 (λ_ _=>False) I3 (fpok pg fr3) st3 go
   rw[hXA]at q
   refine thn q λr s4 ⟨u,hr,h4⟩=>?_
   subst hr
   refine thn h4 λ_ s5 ⟨x,H5,I5,r5,y5,st5,fr5⟩=>?_
   have I5':=I5.pinned (fpok pg fr5) (T.obj _ _ st5)
   have again:∀{σ7:St}{H7:Hp}{s7:Shared}{acc7:List V}{its7:List Value}{n7:Nat}{m:Nat},Inv Xc ([(s2.heap.objs.size,{cls:=.type "list",dict:=none,data:=.seq its7.toArray n7})]++ZcU fp s5.heap) σ7 H7 s7->Vals acc7 its7->acc7.length<=sizeLine->W (i+1) m acc7 H7->σ7.length=(iniC js σ).length->(∀(k:Nat) v,(iniC js σ)[k]?=some (some v)->σ7[k]?=some (some v)) ->
     ∃i acc its nn H',Inv Xc [(s2.heap.objs.size,{cls:=.type "list",dict:=none,data:=.seq (its:List Value).toArray nn})] (iniC js σ) H' s7/\Vals acc its/\acc.length<=sizeLine/\tn i s7.heap/\(∀b∈fp,H' b=none)/\W i m acc H':=λ{σ7 H7 s7 acc7 its7 n7 m} I7 v7 l7 w7 hl7 hw7=>by
    refine⟨i+1,acc7,its7,n7,H7,(I7.weak hl7.symm hw7).ZcV,v7,l7,T.keep _ _ _ st5 λb hb o e=>(I7.pin (b,o) (Yt _ (Yt _ (Zck hb e)))).1,λb hb=>?_,w7⟩
    obtain⟨o,e,d⟩:=T.obj _ _ st5 b hb
    exact(I7.pin (b,o) (Yt _ (Yt _ (Zck hb e)))).2.1
   have keep:∀{σ6:St},ZkC L (iniC js σ) σ6->σ6.length=(iniC js σ).length/\∀(k:Nat) v,(iniC js σ)[k]?=some (some v)->σ6[k]?=some (some v):=λ{σ6} hk=>⟨hk.1,λk v e=>by
    rw[hk.2 k]
    ·exact e
    ·intro z
     have q:=List.all_eq_true.mp hL k z
     simp only[beq_iff_eq]at q
     unfold iniC at e
     rw[YK,q]at e
     cases e⟩
   have q6:=gX _ s5 (iniC js σ) H5 x u _ I5' r5 (ho _ _ _ _ _ (fun σ' H' kk z=>And.intro kk z) (step x H5 y5))
   rw[hXe,hXA,hXp,hXw,hXx]at q6
   refine thn q6 λ_ s6 ⟨σ6,H6,I6,k6,q6⟩=>?_
   obtain⟨kl,kv⟩:=keep k6
   have q7:=tX _ s6 σ6 H6 _ I6 q6
   rw[hXe,hXA,hXp,hXw,hXx]at q7
   refine thn q7 λb s7 ⟨H7,I7,q7⟩=>?_
   cases b with
   |false =>
    obtain⟨m',hm,w7⟩:=q7
    exact⟨m',hm,again I7 va hlen w7 kl kv⟩
   |true =>
    have q8:=eX _ s7 σ6 H7 _ I7 q7
    rw[hXe,hXA,hXp,hXw,hXx]at q8
    refine thn q8 λy s8 ⟨v8,H8,I8,r8,m',hm,w8⟩=>?_
    have pinD:=I8.pin _ (Yt _ (YJ _ (.head _)))
    have hnf:∀p∈ZcU fp s5.heap,p.1≠s2.heap.objs.size:=λp hp=>by
     obtain⟨z,_⟩:=Zgl hp
     exact Yo (hfl _ z)
    have va':=va.length
    refine call_meets F.slot_list_append ⟨_,pinD.1,rfl⟩ F.entry_list_append (F.args_list_append_2 _ _) (PySem.list_append s2.heap.objs.size its.toArray nn y (by rw[Yj];omega)) ⟨pinD.1,?_⟩
    have e9:=PySem.IsL.update pinD.1 (λa=>a.push y)
    have e9':its.toArray.push y=(its++[y]).toArray:=by simp
    dsimp only at e9
    rw[e9']at e9
    have I8':Inv Xc (ZcU fp s5.heap) σ6 H8 s8:=I8.ZdX λp hp=>I8.pin p (Yt _ (Yt _ hp))
    have hXpn:Xc.pn=[]:=by rw[<-hXc];rfl
    have hXs:s2.heap.objs.size∉frs X.stack:=by rw[<-hfs];exact pinD.2.2.2.1
    have I9:=I8'.turned (t':=s8.toks) (it:=s2.heap.objs.size) (h':=s8.heap.update s2.heap.objs.size (Obj.mapSeq λa=>a.push y)) (λb o hb e=>(Heap.get?_update_other s8.heap _ (Ne.symm hb)).trans e) pinD.2.1 pinD.2.2.1
     (.inr (by rw[hs0];exact Yd _)) (λx c e=>by
      rw[hXe]at e
      intro z
      rcases up _ _ e with y|y
      ·obtain⟨v,q⟩:=I2.cell x c y
       exact absurd q.lt (by rw[z];exact YE _)
      ·have:=y.1
       rw[z,hC]at this
       exact absurd this (Nat.not_lt_of_le (Nat.le_succ _))) (λp hp=>by rw[hXpn,List.nil_append]at hp;exact hnf p hp)
    have I10:=I9.ZdX (pins':=[(s2.heap.objs.size,{cls:=.type "list",dict:=none,data:=.seq (its++[y]).toArray _})]++ZcU fp s5.heap) λp hp=>by
     rcases Yq.mp hp with z|z
     ·simp only[Yl,List.not_mem_nil,or_false]at z
      subst z
      exact⟨e9,pinD.2.1,pinD.2.2.1,pinD.2.2.2.1,by intro v z;cases z⟩
     ·exact I9.pin p (Yt _ z)
    exact⟨m',hm,again I10 (va.append (.cons r8 .nil)) (by rw[Yy,List.length_singleton];omega) w8 kl kv⟩
 exact codeAny_compStart_list loop (T.self _ 0 _ _ _ st4 loop)
theorem ZaQ {tg elt iter:Expr}{ifs:List Expr}{scope:Scope}{pos:Pos}{wi:TI}{g:TG}{tt:TT}{te:TE} (Nc:List Str) (js:List (Option Nat)) {L:List Nat}
  (hc:X.calm=true) (hok:ZaP X.env.scope scope=true) (htk:ZaM X.N Nc scope js 0=true) (hi:PI X tg iter wi)
  (hg:∀cl C s2 H2 fp,PG (Zam X Nc scope cl C s2 H2 fp) tg g) (ht:∀cl C s2 H2 fp,ZjB (Zam X Nc scope cl C s2 H2 fp) ifs tt) (he:∀cl C s2 H2 fp,PE (Zam X Nc scope cl C s2 H2 fp) elt te)
  (ho:ZiW g L) (hL:(L.all λk=>js[k]?==some none)=true:=by rfl) (hs:∀x,foldedSetIterable iter X.env x=pure x:=by intro _;rfl):PE X (.ListComp elt [⟨tg,iter,ifs,0⟩] scope pos) (ZiX wi g tt te js):=by
 intro pins s σ H Q I h
 rw[eval_ListComp]
 exact ZgC (use:=none) hc hok htk hi hg ht he hs ho hL I h λD C H' H2 s2 s' xs m I2 hHC e1 e2 hn hI q=>⟨m,hn,λh' hsb=>⟨.ref D,_,hI h' hsb,rfl,q⟩⟩
theorem Zc0 {i:Nat}{x:Str}{pos' spos:Pos}{tg elt iter:Expr}{ifs:List Expr}{scope:Scope}{pos:Pos}{wi:TI}{g:TG}{tt:TT}{te:TE} (Nc:List Str) (js:List (Option Nat)) {L:List Nat}
  (hN:X.N.Nodup) (hxi:X.N[i]?=some x) (hx:Loc X.env.scope x)
  (hc:X.calm=true) (hok:ZaP X.env.scope scope=true) (htk:ZaM X.N Nc scope js 0=true) (hi:PI X tg iter wi)
  (hg:∀cl C s2 H2 fp,PG (Zam X Nc scope cl C s2 H2 fp) tg g) (ht:∀cl C s2 H2 fp,ZjB (Zam X Nc scope cl C s2 H2 fp) ifs tt) (he:∀cl C s2 H2 fp,PE (Zam X Nc scope cl C s2 H2 fp) elt te)
  (ho:ZiW g L) (hL:(L.all λk=>js[k]?==some none)=true:=by rfl) (hs:∀x,foldedSetIterable iter X.env x=pure x:=by intro _;rfl)
  (hsw:swapsWith (.ListComp elt [⟨tg,iter,ifs,0⟩] scope pos) (some (.Name x pos')) spos.line X.env=pure true:=by rfl)
  (hf:X.fn x=true\/X.env.scope.names.lookup x=some .local:=by first|exact .inl rfl|exact .inr rfl|assumption) :
  PS X (.Assign [.Name x pos'] (.ListComp elt [⟨tg,iter,ifs,0⟩] scope pos) spos) (tAsg (ZiX wi g tt te js) (gName i)):=by
 intro pins s σ H D I h
 rw[exec_Assign_Name_used _ _ _ _ hsw]
 refine Yb (wpAny_standAt (Yb ?_))
 show wpAny _ _ (comprehension _ _ _ _ _ _ _ _ >>= _) _ _ _
 refine Yb (thn (Q:=λ_ s'=>∃σ' H',Inv X pins σ' H' s'/\D.nx σ' H') (ZgC (Q:=λv H1=>gName i v σ H1 D.nx) (use:=some (assign (.Name x pos') X.env)) hc hok htk hi hg ht he hs ho hL I h ?_) λ_ s' ⟨σ',H',I',q⟩=>Yg (Yg ⟨σ',H',I',q⟩))
 intro D' C H' H2 s2 s' xs m I2 hHC e1 e2 hn hI q
 obtain⟨oC,es,ep,hoC,hdC,hrest⟩:=id hn
 have leC:s2.heap.objs.size<=C:=by rw[e1,e2];exact Nat.le_succ _
 have ltC:s2.heap.objs.size<C:=by rw[e1,e2];exact Nat.lt_succ_self _
 have neDC:C≠D':=by rw[e2];exact Nat.ne_of_gt ltC
 have fresh:s2.heap.get? C=none:=by
  cases e:s2.heap.get? C with
  |none=>rfl
  |some o=>exact absurd (Yp (Yi e) leC) (YE _)
 have neL:C≠X.env.locals:=Nat.ne_of_gt (Yp I2.lt leC)
 have nfs:C∉X.fs:=I2.nofs leC
 have ncl:∀x c,X.env.cells.lookup x=some c->c≠C:=λx c e z=>by
  obtain⟨v,q⟩:=I2.cell x c e
  exact absurd (Yp q.lt leC) (by rw[z];exact YE _)
 have npn:∀p∈X.pn++pins,p.1≠C:=λp hp z=>by
  have:=(I2.pin p hp).1
  rw[z,fresh]at this;cases this
 have hH:(upd H' D' (HO.lst xs)) C=none:=by rw[Zh neDC];exact hHC
 have I0:=hI s'.heap ZgX
 have I1:Inv X (pins++[(C,oC)]) σ (upd H' D' (.lst xs)) s':=I0.ZdX λp hp=>by
  rcases Yq.mp hp with z|z
  ·exact I0.pin p (Yt _ z)
  ·simp only[Yl,List.not_mem_nil,or_false]at z
   subst z
   exact⟨hoC,hH,neL,nfs,λv z=>by rw[hdC]at z;cases z⟩
 show wpAny _ _ _ _ _ _
 refine thn (Zo (X:=X) (i:=i) hN hxi hx hf (pins++[(C,oC)]) s' σ _ (.ref D') (.ref D') _ I1 rfl q) λ_ s3 ⟨σ3,H3,I3,q3⟩=>?_
 have pC:=I3.pin (C,oC) (Yt _ (Yt _ (.head _)))
 refine⟨m,⟨oC,es,ep,pC.1,hdC,hrest⟩,λh' hsb=>⟨σ3,H3,?_,q3⟩⟩
 exact I3.ZcV.turned (t':=s3.toks) (it:=C) (λb o hb e=>hsb.extBut b o hb e) pC.2.1 neL (.inr (Yh I2.sz leC)) ncl npn
end
end L2
namespace L2
open PySem PySem.Spec PyProof.Rows PySem.W
noncomputable def CF (n:Nat) (P:Nat->Bool) (vals:Nat->V) (H1:Hp) (i m:Nat) (acc:List V) (H:Hp):Prop:=m=n-i/\i<=n/\acc=((List.range i).filter P).map vals/\Zf H1 H
theorem CF.take {n:Nat}{P:Nat->Bool}{vals:Nat->V}{H1 H:Hp}{i:Nat}{v:V} (hi:i<n) (hP:P i=true) (hv:v=vals i) (s:Zf H1 H):∃m',m'<n-i/\CF n P vals H1 (i+1) m' (((List.range i).filter P).map vals++[v]) H :=
 ⟨n-(i+1),by omega,rfl,hi,by rw[YS,List.filter_append,YM,hv];simp[hP],s⟩
theorem CF.skip {n:Nat}{P:Nat->Bool}{vals:Nat->V}{H1 H:Hp}{i:Nat} (hi:i<n) (hP:P i=false) (s:Zf H1 H):∃m',m'<n-i/\CF n P vals H1 (i+1) m' (((List.range i).filter P).map vals) H :=
 ⟨n-(i+1),by omega,rfl,hi,by rw[YS,List.filter_append,YM];simp[hP],s⟩
theorem Zex {J:It}{n:Nat}{H1:Hp}{g:TG}{tt:TT}{te:TE}{σ0:St}{Q:VK} (P:Nat->Bool) (vals:Nat->V) (hn:n<sizeLine) (hgo:∀i H,Zf H1 H->i<n->J.go i H) (hstop:∀H,Zf H1 H->J.stop n H)
  (hb:∀i x H H',i<n->Zf H1 H->J.yld i H x H'->g x σ0 H' fun σ2 H2=>tt σ2 H2 λb H3=>if b=true then te σ2 H3 λv H4=>∃m',m'<n-i/\CF n P vals H1 (i+1) m' (((List.range i).filter P).map vals++[v]) H4 else ∃m',m'<n-i/\CF n P vals H1 (i+1) m' (((List.range i).filter P).map vals) H3)
  (hk:∀l H',Zf H1 H'->H' l=none->Q (.ref l) (upd H' l (.lst (((List.range n).filter P).map vals)))) :
  Zft J g tt te σ0 Q H1:=by
 refine⟨CF n P vals H1,⟨n,rfl,Yu _,rfl,Zf.refl _⟩,?_⟩
 rintro i m acc H ⟨rfl,hi,rfl,s⟩
 have hlen:(((List.range i).filter P).map vals).length<=n:=by
  rw[Yf]
  have:=Y2 P (List.range i)
  rw[Y5]at this
  omega
 by_cases h:i<n
 ·exact .inr ⟨hgo i H s h,by omega,λx H' y=>hb i x H H' h s y⟩
 ·have:i=n:=by omega
  subst this
  exact .inl ⟨hstop H s,by omega,λp hp=>hk p H s hp⟩
theorem ZkR {ns T:List Int}{g:Nat->Int} (hT:Zk ns T) (hg:∀q p,q<ns.length->p<ns.length->Over (nth ns) q p->(q<p->g q<=g p)/\(p<q->g q<g p)):∀p,p<ns.length->Zv g ns.length p (T.getD p 0):=by
 intro p hp
 have pv:∀q,ZS (nth ns) p q->ZS g p q:=λq h=>by
  refine⟨h.1,(hg q p (by have:=h.1;omega) hp (.inl ⟨h.1,λr r1 r2=>?_⟩)).1 h.1,λr r1 r2=>(hg p r hp (by omega) (.inr ⟨r2,λs s1 s2=>h.2.2 s (by omega) s2⟩)).2 r2⟩
  by_cases z:r=p
  ·rw[z];exact h.2.1
  ·have:=h.2.2 r r1 (by omega);have:=h.2.1;omega
 have nx:∀r,ZO (nth ns) ns.length p r->ZO g ns.length p r:=λq h=>by
  refine⟨h.1,h.2.1,(hg q p h.2.1 hp (.inr ⟨h.1,λr r1 r2=>?_⟩)).2 h.1,λs s1 s2=>(hg p s hp (by have:=h.2.1;omega) (.inl ⟨s1,λr r1 r2=>h.2.2.2 r r1 (by omega)⟩)).1 s1⟩
  by_cases z:r=p
  ·rw[z];exact h.2.2.1
  ·have:=h.2.2.2 r (by omega) r2;have:=h.2.2.1;omega
 have np:ZbA (nth ns) p->ZbA g p:=λh q hq=>(hg p q hp (by omega) (.inr ⟨hq,λr r1 r2=>h r r2⟩)).2 hq
 have nn:Za2 (nth ns) ns.length p->Za2 g ns.length p:=λh r r1 r2=>(hg p r hp r2 (.inl ⟨r1,λs s1 s2=>h s s1 (by omega)⟩)).1 r1
 have hE:Zv (nth ns) ns.length p (T.getD p 0):=hT.2 p hp
 rcases hE with⟨h1,h2,h⟩|⟨q,h1,h2,h⟩|⟨r,h1,h2,h⟩|⟨q,r,h1,h2,h⟩
 ·exact .inl ⟨np h1,nn h2,h⟩
 ·exact .inr (.inl ⟨q,pv q h1,nn h2,h⟩)
 ·exact .inr (.inr (.inl ⟨r,np h1,nx r h2,h⟩))
 ·refine .inr (.inr (.inr ⟨q,r,pv q h1,nx r h2,?_⟩))
  rw[h]
  have hq:q<ns.length:=by have:=h1.1;omega
  have hqr:q<r:=by have:=h1.1;have:=h2.1;omega
  by_cases z:nth ns q<=nth ns r
  ·have:=(hg q r hq h2.2.1 (.inl ⟨hqr,λs s1 s2=>by
    by_cases y:s=r
    ·rw[y];exact z
    ·by_cases y2:s=p
     ·rw[y2];exact h1.2.1
     ·have:=h1.2.1
      by_cases y3:s<p
      ·have:=h1.2.2 s s1 y3;omega
      ·have:=h2.2.2.2 s (by omega) (by omega);omega⟩)).1 hqr
   rw[Yc z,Yc (by omega)]
  ·have:=(hg r q h2.2.1 hq (.inr ⟨hqr,λs s1 s2=>by
    have:=h1.2.1;have:=h2.2.2.1
    by_cases y:s=q
    ·rw[y];omega
    ·by_cases y2:s=p
     ·rw[y2];omega
     ·by_cases y3:s<p
      ·have:=h1.2.2 s (by omega) y3;omega
      ·have:=h2.2.2.2 s (by omega) (by omega);omega⟩)).2 hqr
   rw[Ya z,Ya (by omega)]
theorem atI_m1 {xs:List V}{v:V} (h:0<xs.length) (hv:xs[xs.length-1]?=some v):atI xs (-1)=some v:=by
 have e:ixN xs.length (-1)=some (xs.length-1):=by
  unfold ixN
  rw[Ya (by omega),Yc (by omega)]
  congr 1
  omega
 unfold atI
 rw[e]
 exact hv
end L2
namespace HT
open PySem PyProof.Rows
section
open PySem.SeqAt
open PySem.AutoSeq1 (wpAny_loadPart')
open PySem.MeetsSeq PySem.MeetsSeq2 PySem.MeetsSeq3
variable {prog:Program}{w:World}{A:Around}{E:Value->Shared->Prop}{s:Shared}
end
end HT
namespace L2
open PySem PySem.Spec PyProof.Rows PySem.W
section
variable {X:Cx}{tg l:Expr}{tl:TE}
theorem ZmD {K:Frag} (hK:X.K=K) (hl:PE X l tl):PI X tg l (iTup K tl):=hK▸Zkp hl
end
theorem ZhK (T:List Int):∀k a,(ZdM T k a).length<k->ZdM T (k+1) a=ZdM T k a
 |0,_,h=>by omega
 |k+1,a,h=>by
  rw[ZdM]at h⊢
  by_cases z:0<=a/\a<T.length
  ·rw[Yc z]at h⊢
   rw[ZhK T k _ (by simpa using h),ZdM,Yc z]
  ·rw[Ya z]at h⊢
   rw[ZdM,Ya z]
noncomputable def way (T:List Int) (p:Nat):List Nat:=ZdM T T.length (nth T p)
theorem ZmE {T:List Int}{p:Nat} (h:nth T p=-1):way T p=[]:=by
 unfold way
 rw[h]
 cases T.length with
 |zero=>rfl
 |succ k=>rw[ZdM,Ya (by omega)]
theorem ZL {ns T:List Int} (hT:Zk ns T) {p q:Nat} (hp:p<ns.length) (h:nth T p=q):way T p=q::way T q:=by
 have hE:Zv (nth ns) ns.length p (q:Int):=h▸hT.2 p hp
 have hq:q<ns.length:=by
  rcases ZbB hp hE with z|⟨q',e,z,_⟩<;>omega
 have hd:=Zeu hp hE
 have hl:=ZkO (f:=nth ns) hp
 unfold way
 rw[h,hT.1]
 obtain⟨k,hk⟩:∃k,ns.length=k+1:=⟨ns.length-1,by omega⟩
 rw[hk,ZdM,Yc ⟨by omega,by rw[hT.1];omega⟩,show((q:Nat):Int).toNat=q by omega]
 rw[ZhK T k (nth T q)]
 rw[(Zfx hT k q hq (by omega)).2]
 omega
theorem ZaG {ns T:List Int} (hT:Zk ns T) {p:Nat} (hp:p<ns.length):nth T p=-1\/∃q:Nat,nth T p=q/\q<ns.length/\Over (nth ns) q p/\dep (nth ns) ns.length p=dep (nth ns) ns.length q+1:=by
 rcases ZbB hp (hT.2 p hp)with z|⟨q,e,hq,hO⟩
 ·exact .inl z
 ·have e':nth T p=(q:Int):=e
  have hE:Zv (nth ns) ns.length p (q:Int):=e'▸hT.2 p hp
  exact .inr ⟨q,e,hq,hO,Zeu hp hE⟩
noncomputable def Zch (T:List Int) (p:Nat):Nat:=((way T p).filter λo=>decide (p<o)).length
noncomputable def ZeQ (T:List Int):List Int:=(List.range T.length).map λp=>(Zch T p:Int)
theorem Zdm {T:List Int}{p:Nat} (h:p<T.length):nth (ZeQ T) p=Zch T p:=by simp[nth,ZeQ,Yr,h]
theorem Zey {P Q:Nat->Bool}{l:List Nat} (h:∀x∈l,P x=Q x):(l.filter P).length=(l.filter Q).length:=by
 rw[List.filter_congr h]
theorem Z9 {ns T:List Int} (hT:Zk ns T) {p o:Nat} (hp:p<ns.length):o∈way T p↔o<ns.length/\Over (nth ns) o p:=by
 unfold way
 rw[hT.1]
 exact(Zfx hT ns.length p hp (YQ (ZkO hp))).1 o
theorem ZjL {f:Nat->Int}{o q p:Nat} (h:Over f o q) (k:Over f q p):(p<q->p<o->q<o)/\(q<p->q<o->p<o):=by
 refine⟨λh1 h2=>Nat.lt_of_not_le λz=>?_,λh1 h2=>Nat.lt_of_not_le λz=>?_⟩
 ·rcases h with⟨a,b⟩|⟨a,b⟩
  ·rcases k with⟨c,d⟩|⟨c,d⟩
   ·omega
   ·have:=d o (by omega) a;have:=b q a (Yd _);omega
  ·omega
 ·rcases h with⟨a,b⟩|⟨a,b⟩
  ·omega
  ·rcases k with⟨c,d⟩|⟨c,d⟩
   ·have:=d o h2 z;have:=b q (Yd _) a;omega
   ·omega
theorem ZgD {ns T:List Int} (hT:Zk ns T) {p q:Nat} (hp:p<ns.length) (hq:q<ns.length) (h:nth T p=q) (hO:Over (nth ns) q p):Zch T p=Zch T q+if p<q then 1 else 0:=by
 unfold Zch
 rw[ZL hT hp h,List.filter_cons]
 have e:((way T q).filter λo=>decide (p<o)).length=((way T q).filter λo=>decide (q<o)).length:=by
  refine Zey λo ho=>?_
  have ho':=((Z9 hT hq).mp ho).2
  have hs:=ZjL ho' hO
  have hne:=hO.ne
  have hne2:=ho'.ne
  rw[Bool.eq_iff_iff,decide_eq_true_eq,decide_eq_true_eq]
  rcases Nat.lt_or_gt_of_ne hne with z|z
  ·exact⟨λy=>by omega,λy=>hs.2 z y⟩
  ·exact⟨λy=>hs.1 z y,λy=>by omega⟩
 by_cases z:p<q
 ·rw[Yc (by simpa using z),Yc z,Yn,e]
 ·rw[Ya (by simpa using z),Ya z,e,Nat.add_zero]
theorem ZhL {ns T:List Int} (hT:Zk ns T) {R:Nat->Nat->Prop} (h1:∀p q,p<ns.length->q<ns.length->nth T p=q->Over (nth ns) q p->R q p) (h2:∀o q p,Over (nth ns) o q->Over (nth ns) q p->R o q->R q p->R o p) :
  ∀d p o,p<ns.length->o<ns.length->dep (nth ns) ns.length p=d->Over (nth ns) o p->R o p:=by
 intro d
 induction d with
 |zero =>
  intro p o hp ho hd hO
  rcases ZaG hT hp with z|⟨q,e,hq,hOq,hdq⟩
  ·exact absurd hO (Zdl hp ho (z▸hT.2 p hp))
  ·omega
 |succ d ih =>
  intro p o hp ho hd hO
  rcases ZaG hT hp with z|⟨q,e,hq,hOq,hdq⟩
  ·exact absurd hO (Zdl hp ho (z▸hT.2 p hp))
  ·rcases(Zfv hp ho (show Zv (nth ns) ns.length p (q:Int)from(show T.getD p 0=(q:Int)from e)▸hT.2 p hp)).mp hO with y|y
   ·rw[y];exact h1 p q hp hq e hOq
   ·exact h2 o q p y hOq (ih q o hq ho (by omega) y) (h1 p q hp hq e hOq)
theorem ZjM {ns T:List Int} (hT:Zk ns T) {p o:Nat} (hp:p<ns.length) (ho:o<ns.length) (hO:Over (nth ns) o p):Zch T o<=Zch T p/\(p<o->Zch T o<Zch T p):=by
 refine ZhL hT (R:=λo p=>Zch T o<=Zch T p/\(p<o->Zch T o<Zch T p)) (λp q hp hq e hO=>?_) (λo q p h1 h2 r1 r2=>?_) _ p o hp ho rfl hO
 ·have:=ZgD hT hp hq e hO
  refine⟨by omega,λz=>?_⟩
  rw[Yc z]at this;omega
 ·refine⟨Yh r1.1 r2.1,λz=>?_⟩
  by_cases y:p<q
  ·have:=r2.2 y;have:=r1.1;omega
  ·have hne:=h2.ne
   have:=r1.2 (by omega);have:=r2.1;omega
section
variable {X:Cx}{pins:List (Addr×Obj)}{σ:St}{H:Hp}{s:Shared}{h':Heap}
theorem Inv.ZmF {t':Nat}{fp:List Addr}{T:Addr}{o:HO} (I:Inv X pins σ H s) (k:∀b u,b∉fp->s.heap.get? b=some u->h'.get? b=some u) (hf:∀b∈fp,FpOk X pins H b) (hT:s.heap.objs.size<=T) (new:ZJ X.prog X.w (upd H T o) h' T o) :
  Inv X pins σ (upd H T o) {s with heap:=h',toks:=t'}:=by
 have nit:∀b u,H b=some u->b∉fp:=λb u e z=>by rw[(hf b z).1]at e;cases e
 have hfr:H T=none:=I.hok.fresh hT
 have neT:∀b u,s.heap.get? b=some u->b≠T:=λb u e z=>absurd (Yi e) (by rw[z];exact Nat.not_lt_of_le hT)
 have neH:∀b u,H b=some u->b≠T:=λb u e z=>by rw[z,hfr]at e;cases e
 refine I.step (g':=s.gens) (d':=s.drawn) (ch:=fp) (λb hb=>?_) (λb o _ _ hc e _=>k b o hc e) (λb o _ _ hc e _=>⟨o.slots,k b o hc e⟩) (λb u _ e n=>by rw[Zh (neT b u e)];exact n)
  (λb o hc e=>⟨o,k b o hc e⟩) (λb xs e=>by rw[Zh (neH b _ e)];exact e) (λb o u e=>by rw[Zh (neH b _ e)];exact e) (λb ps e=>⟨#[],by rw[Zh (neH b _ e),e];simp⟩) (λm hm=>?_) (λb u e=>?_) I.bare
 ·obtain⟨_,f1,_,f3,f4,f5⟩:=hf b hb
  exact⟨f3,f1,f4,f5⟩
 ·obtain⟨o,es,ep,ho,r⟩:=hm
  exact⟨o,es,ep,k _ o (λz=>(hf _ z).2.1 rfl) ho,r⟩
 ·by_cases z:b=T
  ·subst z
   rw[Zc]at e;cases e
   exact new
  ·rw[Zh z]at e
   refine(I.hok b u e).ZgM (λc v hc q=>k c v ?_ q) (λc q=>?_) (λc xs q=>?_) λc o u q=>?_
   ·rcases hc with y|y
    ·rw[y];exact nit b u e
    ·exact nit c _ y
   ·rw[Zh (neH _ _ q)];exact q
   ·rw[Zh (neH _ _ q)];exact q
   ·rw[Zh (neH _ _ q)];exact q
theorem ZiA:bootBuiltins "enumerate"=some (.type "enumerate"):=by decide +kernel
end
theorem ifR {c:TT}{t u:TS}{D:Ends}{σ:St}{H:Hp} (T U:Hp->Prop) (ht:∀H1,T H1->t D σ H1) (hu:∀H1,U H1->u D σ H1) (hc:∀B:Bool->Hp->Prop,(∀H1,T H1->B true H1)->(∀H1,U H1->B false H1)->c σ H B):tIfS c t u D σ H :=
 hc _ (λH1 h=>by rw[Yc rfl];exact ht H1 h) (λH1 h=>by rw[Ya (by simp)];exact hu H1 h)
section
variable {prog:Program}{w:World}{A:Around}{E Q:Value->Shared->Prop}{s:Shared}{it t:Addr}{i:Nat}{items:Array Value}
theorem Zd5 {x:Value} (hi:s.heap.IsTupleIter it t i) (ht:s.heap.IsTuple t items) (hx:items[i]?=some x) (h:∀h',h'.IsTupleIter it t (i+1)->Heap.SameBut it s.heap h'->Q x {s with heap:=h'}):wpAny (model prog w) A (Builtin.SmallTypes.nextOf (.ref it)) Q E s:=by
 obtain⟨o,ho,hc,hd⟩:=id hi
 obtain⟨ot,hot,hct,n,hdt⟩:=id ht
 have hT:s.TypeIs (.ref it) "tuple_iterator":=⟨o,ho,hc⟩
 unfold Builtin.SmallTypes.nextOf
 refine Yb (wpAny_callSpecial?_slot hT F.slot_tuple_iterator_next (wpAny_call_entry F.slot_tuple_iterator_next hT F.entry_tuple_iterator_next ?_ (F.args_tuple_iterator_next_1 _)))
 show wpAny _ _ (_ >>= _) _ _ _
 refine Yb (wpAny_of_eq (show slotArgs "__next__" 0 {pos:=[.ref it]}=pure (.ref it,[])from rfl) ?_)
 refine Yb (wpAny_field ho hd (x:=.ref t) rfl ?_)
 rw[Ya (by simp)]
 refine Yb (wpAny_field ho hd (x:=.int (i:Int) 0) rfl ?_)
 refine Yb (wpAny_seqItems hot hdt ?_)
 dsimp only
 rw[Y6,hx]
 refine Yb (wpAny_setField ho hd (by show 1<2;decide) (Yg ⟨x,rfl,?_⟩))
 refine Yg (h _ ?_ ⟨by simp,λb hb=>Heap.get?_update_other _ _ (Ne.symm hb)⟩)
 obtain⟨cls,dict,data,slots⟩:=o
 simp only at hc hd
 subst hc hd
 exact⟨_,Heap.get?_update_self _ ho rfl,rfl,rfl⟩
theorem Zez (hA:A.handled=none) (hi:s.heap.IsTupleIter it t i) (ht:s.heap.IsTuple t items) (hx:items[i]?=none) (h:∀h' e,Heap.ExtBut it s.heap h'->(∃o,h'.get? e=some o/\o.cls=.type "StopIteration")->E (.ref e) {s with heap:=h'}):wpAny (model prog w) A (Builtin.SmallTypes.nextOf (.ref it)) Q E s:=by
 obtain⟨o,ho,hc,hd⟩:=id hi
 obtain⟨ot,hot,hct,n,hdt⟩:=id ht
 have hT:s.TypeIs (.ref it) "tuple_iterator":=⟨o,ho,hc⟩
 unfold Builtin.SmallTypes.nextOf
 refine Yb (wpAny_callSpecial?_slot hT F.slot_tuple_iterator_next (wpAny_call_entry F.slot_tuple_iterator_next hT F.entry_tuple_iterator_next ?_ (F.args_tuple_iterator_next_1 _)))
 show wpAny _ _ (_ >>= _) _ _ _
 refine Yb (wpAny_of_eq (show slotArgs "__next__" 0 {pos:=[.ref it]}=pure (.ref it,[])from rfl) ?_)
 refine Yb (wpAny_field ho hd (x:=.ref t) rfl ?_)
 rw[Ya (by simp)]
 refine Yb (wpAny_field ho hd (x:=.int (i:Int) 0) rfl ?_)
 refine Yb (wpAny_seqItems hot hdt ?_)
 dsimp only
 rw[Y6,hx]
 refine Yb (wpAny_rule (Yb (wpAny_setField ho hd (by show 0<2;decide) ?_)))
 unfold Builtin.SmallTypes.stopIteration
 refine Yb ?_
 unfold newExc
 refine Yb (wpAny_newTuple ?_ (Yu _))
 refine Yb (wpAny_of_eq (show firstArgMember (.type "StopIteration") []=pure .none by first|rfl|(unfold firstArgMember;rfl)) ?_)
 refine wpAny_newObj_type (wpAny_raiseNew_none hA (h _ _ (λb o' hb e=>?_) ⟨_,Yz _ rfl,rfl⟩))
 exact Ym _ (Ym _ ((Heap.get?_update_other _ _ (Ne.symm hb)).trans e))
theorem ZeR (hA:A.handled=none) (it t:Addr) (hne:t≠it) (items:Array Value):Draws prog w A it [it,t] items.size (λi v=>items[i]?=some v) (λi h=>h.IsTupleIter it t i/\h.IsTuple t items) where
 live:=λi h st=>by obtain⟨⟨o,ho,_⟩,_⟩:=st;exact⟨o,ho⟩
 frame:=λi h h' st k=>by
  obtain⟨⟨o,ho,r⟩,⟨ot,hot,rt⟩⟩:=st
  exact⟨⟨o,k it (by simp) o ho,r⟩,⟨ot,k t (by simp) ot hot,rt⟩⟩
 item:=λi s Q E hi st h=>by
  obtain⟨ot,hot,rt⟩:=st.2
  refine Zd5 st.1 st.2 (Array.getElem?_eq_getElem hi) λh' hit hs=>h _ h' s.toks (Array.getElem?_eq_getElem hi) ⟨hit,⟨ot,(hs.2 t hne).trans hot,rt⟩⟩ hs
 done:=λs Q E st h=>Zez hA st.1 st.2 (Array.getElem?_eq_none (Yd _)) h
end
section
variable {X:Cx}{pins:List (Addr×Obj)}{σ:St}{H:Hp}{s:Shared}{h':Heap}
noncomputable def IteT (K : Frag) (a : Addr) : It :=
  ⟨fun i H => ∃ xs x, SqT K H a xs ∧ xs[i]? = some x,
   fun i H v H' => ∃ p x, H p = none ∧ v = .ref p ∧ H' = upd H p (.tup [.int (i : Int), x]) ∧ ∀ xs, SqT K H a xs → xs[i]? = some x,
   fun i H => ∃ xs, SqT K H a xs ∧ xs.length = i⟩
theorem ZiB {P:Program}{w:World}{K:Frag}{elts:List Expr} {x1}{pos:Pos}{a e it:Addr} (h1:e≠it) (h2:a≠e) (h3:a≠it) :
  Turn P w K (.Tuple elts x1 pos) (IteT K a) [e,it] e (λi h=>(∃old,IsEnum h e it (i:Int) old)/\h.IsTupleIter it a i) where
 mem:=by simp
 obj:=λi h st c hc=>by
  obtain⟨⟨old,q1⟩,⟨o4,q4,_,d4⟩⟩:=st
  simp at hc
  rcases hc with rfl|rfl
  ·exact⟨_,q1,λv z=>by cases z⟩
  ·exact⟨_,q4,λv z=>by rw[d4]at z;cases z⟩
 keep:=λi h h' st k=>by
  obtain⟨⟨old,q1⟩,⟨o,ho,r⟩⟩:=st
  exact⟨⟨old,k e (by simp) _ q1⟩,⟨o,k it (by simp) o ho,r⟩⟩
 item:=by
  intro X hP hw hK hc i pins s σ H E I hf st hg
  subst hP hw hK
  obtain⟨xs,x,qa,hx⟩:=hg
  obtain⟨is1,r1,p1,hz1⟩:=I.tuple qa
  obtain⟨u,hu,ru⟩:=r1.get hx
  have W:=WalksT.enumerateD (prog:=X.prog) (w:=X.w) (A:=X.A) (ZeR (A:=X.A.in1) (I.ok.hd hc) it a h3 is1.toArray) e h1 (by simp;exact⟨h1,h2.symm⟩) (by simp)
  have hi:i<is1.toArray.size:=by
   have:=(Yk.mp hu).1
   simpa using this
  refine W.item i s _ E hi ⟨st.1,st.2,p1⟩ λT vals h' tk Pt hT hTup Mid keep=>⟨_,rfl,W.go elts x1 pos i T _ _ E Mid λh2' St2 keep2=>?_⟩
  obtain⟨t,y,hy,rfl⟩:=Pt
  have hyu:y=u:=by
   have:is1[i]?=some y:=by simpa using hy
   rw[hu]at this;exact(YA this).symm
  subst hyu
  have nT:=W.apart i T h' Mid
  have hfr:H T=none:=I.hok.fresh hT
  have kk:∀b o,b∉[e,it]->s.heap.get? b=some o->h2'.get? b=some o:=λb o hb q=>keep2 b o hb (keep b o hb q)
  have nTe:∀c∈[e,it],c≠T:=λc hc z=>nT (z▸hc)
  refine⟨.ref T,_,Inv.ZmF (s:=s) (t':=tk) (o:=.tup [.int (i:Int),x]) I kk hf hT ?_,rfl,⟨T,x,hfr,rfl,rfl,λxs' q'=>?_⟩,⟨?_,St2.2.1⟩,λc hc=>?_⟩
  ·obtain⟨oT,q1,q2,n,q3⟩:=hTup
   exact⟨by show 2<=sizeLine;decide,[.int (i:Int) t,y],.cons ⟨t,rfl⟩ (.cons ru .nil),⟨oT,keep2 T oT nT q1,q2,n,q3⟩⟩
  ·rw[I.Zdk q' qa];exact hx
  ·obtain⟨old,q⟩:=St2.1
   exact⟨old,by rw[show(((i+1:Nat)):Int)=(i:Int)+1 by omega]at *;exact q⟩
  ·rw[Zh (nTe c hc)];exact(hf c hc).1
 done:=by
  intro X hP hw hK hc i pins s σ H E I hf st hg
  subst hP hw hK
  obtain⟨xs,qa,hx⟩:=hg
  obtain⟨is1,r1,p1,_⟩:=I.tuple qa
  have W:=WalksT.enumerateD (prog:=X.prog) (w:=X.w) (A:=X.A) (ZeR (A:=X.A.in1) (I.ok.hd hc) it a h3 is1.toArray) e h1 (by simp;exact⟨h1,h2.symm⟩) (by simp)
  have hi:i=is1.toArray.size:=by
   have:=r1.length
   simp;omega
  refine W.done s _ E ?_ λh' tk keep=>⟨rfl,I.Zmw (t':=tk) (fp:=[e,it]) (λc o hc q=>keep c o hc q) hf⟩
  rw[<-hi]
  exact⟨st.1,st.2,p1⟩
 self:=λA i s Q E st h=>by
  obtain⟨⟨old,q⟩,_⟩:=st
  exact wpAny_pyIter_enum q h
theorem ZiC {M:Model}{A:Around}{E:Value->Shared->Prop}{s:Shared} (cls:Value):wpAny M A (Builtin.SmallTypes.calledThroughType cls) (λ_ s'=>s'=s) E s:=by
 unfold Builtin.SmallTypes.calledThroughType
 exact Yb (wpAny_stack λst _ _ _=>Yg rfl)
theorem ZhM {prog:Program}{w:World} (l:Addr) (items:Array Value):MeetsIn prog w (Builtin.«enumerate.__new__» {pos:=[.type "enumerate",.ref l]}) λA R s=>s.heap.IsTuple l items/\R (.ok (.ret (.ref (s.heap.objs.size+1)))) {s with heap:=(s.heap.push {cls:=.type "tuple_iterator",data:=.fields #[.ref l,.int 0 0]}).push {cls:=.type "enumerate",data:=.fields #[.none,.bool false,.ref s.heap.objs.size,rawInt 0,.none,.none]}}:=by
 intro A R s ⟨h,hR⟩
 unfold Builtin.«enumerate.__new__»
 refine Yb (wpAny_of_eq (show Builtin.SmallTypes.newClass "enumerate" {pos:=[.type "enumerate",.ref l]}=pure (.type "enumerate",[.ref l])from by first|rfl|(unfold Builtin.SmallTypes.newClass;rfl)) ?_)
 show wpAny _ _ (_ >>= _) _ _ _
 have hsz:(s.heap.push {cls:=.type "tuple_iterator",data:=.fields #[.ref l,.int 0 0]}).objs.size=s.heap.objs.size+1:=Heap.size_push _ _
 refine Yb (thn (ZiC (.type "enumerate")) λb s' e=>?_)
 subst e
 cases b with
 |true =>
  show wpAny _ _ (_ >>= _) _ _ _
  refine Yb (wpAny_of_eq (show _=pure (.ref l,none)from rfl) ?_)
  show wpAny _ _ (_ >>= _) _ _ _
  refine Yb (wpAny_pyIter_tuple h ?_)
  show wpAny _ _ (newObj (.type "enumerate") (.fields #[.none,.bool false,.ref s'.heap.objs.size,rawInt 0,.none,.none]) >>= _) _ _ _
  refine Yb (wpAny_newObj_type (Yg ?_))
  rw[hsz];exact hR
 |false =>
  show wpAny _ _ (_ >>= _) _ _ _
  refine Yb (wpAny_of_eq (show _=pure (.ref l,none)from rfl) ?_)
  show wpAny _ _ (_ >>= _) _ _ _
  refine Yb (wpAny_pyIter_tuple h ?_)
  show wpAny _ _ (newObj (.type "enumerate") (.fields #[.none,.bool false,.ref s'.heap.objs.size,rawInt 0,.none,.none]) >>= _) _ _ _
  refine Yb (wpAny_newObj_type (Yg ?_))
  rw[hsz];exact hR
noncomputable def iEnumT (K:Frag) (ta:TA):TI:=fun σ H R=>ta σ H λvs H1=>∃a xs,vs=[.ref a]/\SqT K H1 a xs/\R (IteT K a) H1
theorem ZkS {K:Frag}{elts:List Expr} {x1}{tp:Pos}{e1:Expr}{ta:TA}{p pos:Pos} (hK:X.K=K) (hg:Gl X "enumerate") (hm:X.mg "enumerate"=none) (ha:PA X [e1] ta) (hs:starEach [e1] X.env=[(false,eval e1 X.env)]:=by rfl) :
  PI X (.Tuple elts x1 tp) (.Call (.Name "enumerate" p) [e1] [] pos) (iEnumT K ta):=by
 subst hK
 intro pins s σ H R I h
 refine wpAny_Call_Name_kw (Zen I hg hm ZiA ?_)
 refine PyProof.Rows.callWith_type1 (thn (ha pos pins s σ H _ I h) λus s1 ⟨vs,H1,I1,r1,a,xs,e1,qa,q⟩=>?_) hs rfl
 subst e1
 obtain⟨u,rfl,ru⟩:=r1.one
 cases(show u=Value.ref a from ru)
 obtain⟨is1,rr1,p1,_⟩:=I1.tuple qa
 have l1:a<s1.heap.objs.size:=by obtain⟨o,e,_⟩:=p1;exact Yi e
 have sm:∀b,s1.heap.objs.size<=b->FpOk X pins H1 b:=λb hb=>I1.fpOk hb (I1.hok.fresh hb)
 have n1:s1.heap.objs.size+1≠s1.heap.objs.size:=by show ¬ ((_:Nat)=_);omega
 have n2:a≠s1.heap.objs.size+1:=Yo (YU l1)
 have n3:a≠s1.heap.objs.size:=Yo l1
 have T:=ZiB (P:=X.prog) (w:=X.w) (K:=X.K) (elts:=elts) (x1:=x1) (pos:=tp) n1 n2 n3
 have hsz:(s1.heap.push {cls:=.type "tuple_iterator",data:=.fields #[.ref a,.int 0 0]}).objs.size=s1.heap.objs.size+1:=Heap.size_push _ _
 have c1:IsEnum ((s1.heap.push {cls:=.type "tuple_iterator",data:=.fields #[.ref a,.int 0 0]}).push {cls:=.type "enumerate",data:=.fields #[.none,.bool false,.ref s1.heap.objs.size,rawInt 0,.none,.none]}) (s1.heap.objs.size+1) s1.heap.objs.size 0 .none:=by
  show Heap.get? _ _=_
  rw[<-hsz];exact Yz _ rfl
 have c2:((s1.heap.push {cls:=.type "tuple_iterator",data:=.fields #[.ref a,.int 0 0]}).push {cls:=.type "enumerate",data:=.fields #[.none,.bool false,.ref s1.heap.objs.size,rawInt 0,.none,.none]}).IsTupleIter s1.heap.objs.size a 0:=⟨_,Ym _ (Yz _ rfl),rfl,rfl⟩
 refine callType_newIn F.called_enumerate rfl (by first|rfl|decide) (F.newCall_enumerate_1 _) (λobj=>by first|rfl|decide) F.entry_enumerate_new (ZhM a is1.toArray) ⟨p1,⟨_,c1,rfl⟩,?_⟩
 refine T.self _ 0 _ _ _ ⟨⟨_,c1⟩,c2⟩ ?_
 refine⟨_,[s1.heap.objs.size+1,s1.heap.objs.size],_,_,H1,rfl,I1.kept (t':=s1.toks) (λb o e=>Ym _ (Ym _ e)),T,⟨⟨_,c1⟩,c2⟩,λc hc=>?_,q⟩
 simp at hc
 rcases hc with rfl|rfl<;>exact sm _ (by omega)
end
open Classical in
noncomputable def ZeA (f:Nat->Int) (p:Nat):Int:=if h:∃q,ZS f p q then (Classical.choose h:Nat)else -1
open Classical in
noncomputable def ZeB (f:Nat->Int) (n p:Nat):Int:=if h:∃r,ZO f n p r then (Classical.choose h:Nat)else (n:Int)
theorem ZU {f:Nat->Int}{p q:Nat} (h:ZS f p q):ZeA f p=q:=by
 have hx:∃q,ZS f p q:=⟨q,h⟩
 unfold ZeA
 rw[dif_pos hx,(Classical.choose_spec hx).unique h]
theorem Zcq {f:Nat->Int}{p:Nat} (h:ZbA f p):ZeA f p=-1:=by
 unfold ZeA
 rw[dif_neg λ⟨q,hq⟩=>hq.no h]
theorem ZV {f:Nat->Int}{n p r:Nat} (h:ZO f n p r):ZeB f n p=r:=by
 have hx:∃r,ZO f n p r:=⟨r,h⟩
 unfold ZeB
 rw[dif_pos hx,(Classical.choose_spec hx).unique h]
theorem Zbo {f:Nat->Int}{n p:Nat} (h:Za2 f n p):ZeB f n p=n:=by
 unfold ZeB
 rw[dif_neg λ⟨q,hq⟩=>hq.no h]
theorem Zan {f:Nat->Int}{n p:Nat}{e:Int} (h:Zv f n p e):(ZbA f p\/∃q,ZS f p q)/\(Za2 f n p\/∃r,ZO f n p r):=by
 rcases h with⟨h1,h2,_⟩|⟨q,h1,h2,_⟩|⟨r,h1,h2,_⟩|⟨q,r,h1,h2,_⟩
 ·exact⟨.inl h1,.inl h2⟩
 ·exact⟨.inr ⟨q,h1⟩,.inl h2⟩
 ·exact⟨.inl h1,.inr ⟨r,h2⟩⟩
 ·exact⟨.inr ⟨q,h1⟩,.inr ⟨r,h2⟩⟩
theorem ZkT {J:It}{n:Nat}{g:TG}{tb:TS}{D:Ends}{σ:St}{H:Hp} (Pv:Nat->St->Hp->Prop) (h0:Pv 0 σ H) (hgo:∀i σ H,i<n->Pv i σ H->J.go i H) (hstop:∀σ H,Pv n σ H->J.stop n H)
  (hs:∀i x σ H H',i<n->Pv i σ H->J.yld i H x H'->g x σ H' fun σ2 H2=>tb {D with nx:=Pv (i+1),ct:=Pv (i+1),bk:=D.nx} σ2 H2) (hd:∀σ H,Pv n σ H->D.nx σ H):LoopR J g tb D σ H:=by
 refine⟨λi m σ H=>m=n-i/\i<=n/\Pv i σ H,⟨n,by simp,Yu _,h0⟩,?_⟩
 rintro i m σ H ⟨rfl,hi,p⟩
 by_cases hlt:i<n
 ·exact .inr ⟨hgo i σ H hlt p,Pv (i+1),fun σ' H' p'=>⟨n-(i+1),by omega,rfl,hlt,p'⟩,λx H' y=>hs i x σ H H' hlt p y⟩
 ·have:i=n:=by omega
  subst this
  exact .inl ⟨hstop σ H p,hd σ H p⟩
end L2
namespace PySem
open Sem (wp)
end PySem
namespace L2
open PySem PySem.Spec PyProof.Rows PySem.W
section
variable {prog:Program}{w:World}{A:Around}{E:Value->Shared->Prop}{s:Shared}{z TI TO i1 i2 l1 l2:Addr}{k1 k2:Nat}{xs ys:Array Value}{a b:Value}
noncomputable def ZkU (h:Heap) (l:Addr):String:=match h.get? l with
 |some o=>if o.cls=.type "tuple" then "tuple_iterator" else "list_iterator"
 |none=>"list_iterator"
noncomputable abbrev zq1 (h:Heap) (l1:Addr):Heap:=h.push {cls:=.type (ZkU h l1),data:=.fields #[.ref l1,.int 0 0]}
noncomputable abbrev zq2 (h:Heap) (l1 l2:Addr):Heap:=(zq1 h l1).push {cls:=.type (ZkU (zq1 h l1) l2),data:=.fields #[.ref l2,.int 0 0]}
noncomputable abbrev zq3 (h:Heap) (l1 l2:Addr):Heap:=(zq2 h l1 l2).push {cls:=.type "tuple",data:=.seq #[.ref h.objs.size,.ref (zq1 h l1).objs.size]}
end
theorem ZkV (xs:List V):Zcl xs (some (-1)) none=xs.drop (xs.length-1):=by
 unfold Zcl HT.sIx
 cases xs with
 |nil=>simp
 |cons x r =>
  simp
  have e:(-1+((r.length:Int)+1)).toNat=r.length:=by omega
  rw[e]
  exact List.take_of_length_le (by simp)
theorem Zja {K:Frag}{Hx:Hp}{l q:Addr}{L:List Nat} (h1:Hx l=some (.lst (Zz L))) (h2:Hx q=some (.lst [])):EqD K Hx 3 (V.ref l) (V.ref q) (decide (L=[])):=by
 have hh:=Zmz (n:=2) (K:=K) (H:=Hx) Zi6 (V.ref l) (V.ref q) (L.map λ(q:Nat)=>(q:Int)) [] (Zcg (SqL.of (by rw[h1];simp[Zz,Function.comp_def]))) (Zcg (ns:=[]) (SqL.of h2))
 have e:decide (L.map (λ(q:Nat)=>(q:Int))=[])=decide (L=[]):=by cases L<;>simp
 rw[e]at hh;exact hh
noncomputable def CDivL (i j:Int):Prop:=0<j/\j<18446744073709551616
theorem Zd6 {X:Cx}:OpR X (binaryOp .FloorDiv) (rI CDivL λi j=>.int (i / j)):=opI λi j _ _ _ _ _ hc q=>by
 have h1:(0:Int)<j:=hc.1
 have h2:j<18446744073709551616:=hc.2
 refine floordiv_int (by omega) (by rw[Int.fdiv_eq_ediv_of_nonneg i (by omega)];exact q) (.inl (PyProof.noPylong_of_log2 ?_))
 have h3:j.natAbs<2 ^ 64:=by omega
 have:j.natAbs.log2<64:=(Nat.log2_lt (by omega)).mpr h3
 omega
end L2
namespace L2
theorem snoc_cases {α:Type} (xs:List α):xs=[]\/∃ys y,xs=ys++[y]:=by
 rcases List.eq_nil_or_concat xs with h|⟨ys,y,h⟩
 ·exact .inl h
 ·exact .inr ⟨ys,y,by rw[h,List.concat_eq_append]⟩
end L2
namespace L2
open PySem PySem.Spec PyProof.Rows PySem.W
end L2
namespace L2
open PySem PySem.Spec PyProof.Rows PySem.W
structure FunD (K:PySem.W.Frag) (x qual:Str) (st:Stmt) (f:Addr) (fd:FuncData) (dV:Value):Prop where
 ex:∃(oc:Value) (od:Option Addr) (kV doc pm:Value) (an:Option Addr) (cdv ct:Value) (osl:Array (Option Value)),
  fd=PySem.W.fnOf x qual (defArgs st) (defBody st) (defScope st) dV kV doc pm an cdv ct/\K.lookup f=some ⟨oc,od,.func fd,osl⟩/\PySem.W.codeIn K cdv qual=true
 kp:PySem.W.keepIn K (.ref f)=true
section
variable {P:Program}{w:World}{K:PySem.W.Frag}{mg:Str->Option Value}{base:Heap}
theorem FunD.okX {x qual:Str}{st:Stmt}{f:Addr}{fd:FuncData}{dV:Value}{N ps:List Str}{k:Nat}{sp:Sp} (F:FunD K x qual st f fd dV) (S:FnScope N ps (defScope st)) (len:∀vs H Q E,sp vs H Q E->vs.length=ps.length)
  (hbody:∀(cdv:Value) (A:Around) (outer:List Env) (s:Shared) (H:Hp) (vs:List V) (Q:VK) (E:XK),Room k (A.deeper (envOfC qual (defScope st) s.heap.objs.size f cdv))->sp vs H Q E ->
   ∃t,PSs (Zer (CXE P w) P w K mg base N qual (defScope st) f cdv A outer s H E) (defBody st) t/\t {nx:=λ_ H'=>Q .non H',rt:=Q} (start N vs) H):FnOk P w K mg base (CXE P w) (k+1) f fd ps sp:=by
 obtain⟨oc,od,kV,doc,pm,an,cdv,ct,osl,rfl,lk,hcd⟩:=F.ex
 exact fn_of lk hcd S len λA outer s H vs Q E hr hsp=>hbody cdv A outer s H vs Q E hr hsp
theorem FunD.binds {x qual:Str}{st:Stmt}{f:Addr}{fd:FuncData}{D:Addr}{ps:List Str}{ds:List Value}{oc:Value}{od:Option Addr}{items:Array Value}{ep:Nat}{sl:Array (Option Value)} (F:FunD K x qual st f fd (.ref D))
  (lk:K.lookup D=some ⟨oc,od,.seq items ep,sl⟩)
  (h:∀(kV doc pm:Value) (an:Option Addr) (cdv ct:Value) (us:List Value),(us++ds).length=ps.length->∃k,bindArgs (PySem.W.fnOf x qual (defArgs st) (defBody st) (defScope st) (.ref D) kV doc pm an cdv ct) ⟨us,[]⟩=seqItems? (.ref D) >>= k/\k (some items)=pure (ps.zip (us++ds))):Binds K fd ps ds:=by
 obtain⟨oc,od,kV,doc,pm,an,cdv,ct,osl,rfl,lf,hcd⟩:=F.ex
 intro s us KX hl
 obtain⟨k,h1,h2⟩:=h kV doc pm an cdv ct us hl
 exact BindsTo.of_defaults rfl (KX _ _ lk) rfl h1 h2
theorem ZmG {x qual:Str}{st:Stmt}{f:Addr}{oc:Value}{od an:Option Addr}{osl:Array (Option Value)}{dV kV doc pm cdv ct:Value} (l:K.lookup f=some ⟨oc,od,.func (PySem.W.fnOf x qual (defArgs st) (defBody st) (defScope st) dV kV doc pm an cdv ct),osl⟩)
  (c:PySem.W.codeIn K cdv qual=true) (k:PySem.W.keepIn K (.ref f)=true):FunD K x qual st f (PySem.W.fnOf x qual (defArgs st) (defBody st) (defScope st) dV kV doc pm an cdv ct) dV:=⟨⟨oc,od,kV,doc,pm,an,cdv,ct,osl,rfl,l,c⟩,k⟩
end
noncomputable def Zg7 (P:Program) (w:World) (K:Frag) (mg:Str->Option Value) (base:Heap) (x:Str) (k:Nat) (ps:List Str) (dvs:List V) (sp:Sp):Prop :=
 ∃f fd ds,mg x=some (.ref f)/\keepIn K (.ref f)=true/\Binds K fd ps ds/\Vals dvs ds/\FnOk P w K mg base (CXE P w) k f fd ps sp
theorem ZjN {X:Cx}{x:Str}{k:Nat}{ps:List Str}{dvs:List V}{sp:Sp}{E:XK}{e:Expr}{es:List Expr}{t:TA}{p pos:Pos} (C:Zg7 X.prog X.w X.K X.mg X.base x k ps dvs sp) (hr:Room k X.A) (hg:Gl X x) (hx:Passes (CXE X.prog X.w) X E)
  (ha:PA X (e::es) t) (hdb:(x==("__debug__":Str))=false:=by decide) (he:starEach (e::es) X.env=(false,eval e X.env)::starEach es X.env:=by rfl) (hpl:(backTo pos (starEach es X.env)).any (·.1)=false:=by rfl) :
  PE X (.Call (.Name x p) (e::es) [] pos) (tCall sp dvs E t):=by
 obtain⟨f,fd,ds,hm,hk,hb,hv,F⟩:=C
 exact ZiT F hr hg hm hk hb hv hx ha hdb he hpl
noncomputable def ZC (H:Hp) (l:Addr) (rs:List (List Int)):Prop:=∃as:List Addr,H l=some (.lst (as.map V.ref))/\as.length=rs.length/\∀i (h1:i<as.length) (h2:i<rs.length),H as[i]=some (.tup (rs[i].map V.int))
theorem ZC.same {H H':Hp}{l:Addr}{rs:List (List Int)} (R:ZC H l rs) (s:Zf H H'):ZC H' l rs:=by
 obtain⟨as,h1,h2,h3⟩:=R
 exact⟨as,s _ _ h1,h2,λi i1 i2=>s _ _ (h3 i i1 i2)⟩
theorem ZC.nil {H:Hp}{l:Addr} (h:H l=some (.lst [])):ZC H l []:=⟨[],h,rfl,λi i1=>absurd i1 (by simp)⟩
noncomputable def Once (k:Nat) (ss ls:List Int):Prop:=ss=((List.range k).map λ(j:Nat)=>(j:Int)).filter (λj=>decide (j∉ls))/\ls=((List.range k).map λ(j:Nat)=>(j:Int)).filter (λj=>decide (j∈ls))
noncomputable instance (k:Nat) (ss ls:List Int):Decidable (Once k ss ls):=inferInstanceAs (Decidable (_/\_))
theorem ZC.walk {K:Frag}{H1:Hp}{d:Addr}{rs:List (List Int)} (R:ZC H1 d rs):(∀i H,Zf H1 H->i<rs.length->(Itl K d).go i H)/\(∀H,Zf H1 H->(Itl K d).stop rs.length H) /\
  ∀i x H H' (h:i<rs.length),Zf H1 H->(Itl K d).yld i H x H'->H'=H/\∃a,x=.ref a/\H a=some (.tup (rs[i].map V.int)):=by
 obtain⟨as,e,hl,hh⟩:=R
 refine⟨λi H s hi=>⟨_,V.ref (as[i]'(by omega)),SqL.of (s _ _ e),by simp[show i<as.length by omega]⟩,λH s=>⟨_,SqL.of (s _ _ e),by simp[hl]⟩,λi x H H' hi s y=>?_⟩
 obtain⟨e1,y⟩:=y
 have h1:=y _ (SqL.of (s _ _ e))
 rw[YK,Ye (show i<as.length by omega)]at h1
 cases h1
 exact⟨e1,_,rfl,s _ _ (hh i (by omega) hi)⟩
theorem ZC.sq {K:Frag}{H:Hp}{l:Addr}{rs:List (List Int)} (R:ZC H l rs):∃xs,SqL K H l xs:=by
 obtain⟨as,e,_⟩:=R
 exact⟨_,SqL.of e⟩
section
variable {N:Nat}{k:Nat->Int}{cmp:Nat->Nat->(Bool->Shared->Prop)->Shared->Prop}{s:Shared}{p:Array Nat}
noncomputable def kk (k:Nat->Int) (p:Array Nat) (i:Nat):Int:=k (p.getD i 0)
end
theorem ZjO (Y:List Int) (m:Int):atI ((Y++[m]).map V.int) (-1)=some (V.int m):=atI_m1 (by simp) (by simp)
end L2
namespace L2
open PySem PySem.Spec PyProof.Rows PySem.W
theorem Zd7:∀ds:List Nat,(ds.map λ(d:Nat)=>(d:Int)).sum=((ds.sum:Nat):Int)
 |[]=>rfl
 |d::ds=>by rw[YB,List.sum_cons,List.sum_cons,Zd7 ds];omega
end L2
namespace L2
noncomputable def Ok:Nat->List Nat->Prop
 |_,[]=>True
 |st,d::ds=>d<=st/\Ok (st-d+1) ds
end L2
namespace L2
open PySem PySem.Spec PyProof.Rows PySem.W
end L2
namespace L2
open PySem PySem.Spec PyProof.Rows PySem.W
noncomputable def Zg8 (P:Program) (w:World) (K:Frag) (mg:Str->Option Value) (base:Heap) (c:Str) (k:Nat) (ps:List Str) (sp:Sp):Prop :=
 ∃f fd,Mk K (clsAt mg c) f/\mg c=some (.ref (clsAt mg c))/\Binds K fd ps []/\FnOk P w K mg base (CXE P w) k f fd ps sp
noncomputable def ZbS (P:Program) (w:World) (K:Frag) (mg:Str->Option Value) (base:Heap) (c m:Str) (k:Nat) (ps:List Str) (sp:Sp):Prop :=
 ∃f fd,Cls K (clsAt mg c)/\Meth K (clsAt mg c) m f/\Binds K fd ps []/\FnOk P w K mg base (CXE P w) k f fd ps sp
section
variable {X:Cx}{a:Expr}{ta:TE}{pos:Pos}
noncomputable def tFldC (C:Addr) (ta:TE) (f:Str):TE:=fun σ H Q=>ta σ H λx H1=>∃(o dx:Addr) (fs:List (Str×V)) (v:V),x=.ref o/\H1 o=some (.ins C dx fs)/\fs.lookup f=some v/\Q v H1
theorem ZaR {K:Frag}{C:Addr}{f:Str} (hK:X.K=K) (c:Cls K C) (n:NoAttr K C f) (he:PE X a ta) (hb:attributeBase a f X.env (eval a X.env)=eval a X.env:=by rfl):PE X (.Attribute a f pos) (tFldC C ta f):=by
 subst hK
 intro pins s σ H Q I h
 refine Zmn hb (thn (he pins s σ H _ I h) λu s1 ⟨x,H1,I1,rx,o,dx,fs,v,ex,ea,l,q⟩=>?_)
 subst ex
 obtain rfl:u=Value.ref o:=rx
 exact Zik I1 ea c n l λu' s2 I2 ru=>⟨v,H1,I2,ru,q⟩
noncomputable def sFldC (C:Addr) (ta tv:TE) (f:Str):TS:=λD σ H=>tv σ H λy H1=>ta σ H1 λx H2=>∃(o dx:Addr) (fs:List (Str×V)),x=.ref o/\H2 o=some (.ins C dx fs)/\fs.length<1000/\D.nx σ (upd H2 o (.ins C dx (Zbc f y fs)))
theorem Zfl {K:Frag}{C:Addr}{f:Str}{value:Expr}{tv:TE}{pos':Pos} (hK:X.K=K) (c:Cls K C) (n:NoAttr K C f) (ha:PE X a ta) (hv:PE X value tv) (hs:swapsWith value (some (.Attribute a f pos')) pos.line X.env=pure false:=by rfl):PS X (.Assign [.Attribute a f pos'] value pos) (sFldC C ta tv f):=by
 subst hK
 intro pins s σ H D I h
 refine plainObj_wpAny_Assign_Attribute (thn (hv pins s σ H _ I h) λu s1 ⟨y,H1,I1,ry,q⟩=>thn (ha pins s1 σ H1 _ I1 q) λov s2 ⟨x,H2,I2,rx,o,dx,fs,ex,ea,l,q2⟩=>?_) hs
 subst ex
 obtain rfl:ov=Value.ref o:=rx
 exact Zim I2 ea c n l ry λs3 I3=>⟨σ,_,I3,q2⟩
theorem ZkW {x:Str}{k:Nat}{ps:List Str}{sp:Sp}{E:XK}{e:Expr}{es:List Expr}{t:TA}{p:Pos}{mg:Str->Option Value} (hmg:X.mg=mg) (C:Zg8 X.prog X.w X.K mg X.base x k ps sp) (hr:Room (k+1) X.A) (hg:Gl X x) (hx:Passes (CXE X.prog X.w) X E)
  (ha:PA X (e::es) t) (hdb:(x==("__debug__":Str))=false:=by decide) (he:starEach (e::es) X.env=(false,eval e X.env)::starEach es X.env:=by rfl) (hpl:(backTo pos (starEach es X.env)).any (·.1)=false:=by rfl) :
  PE X (.Call (.Name x p) (e::es) [] pos) (tMake (clsAt mg x) sp [] E t):=by
 subst hmg
 obtain⟨f,fd,hM,hm,hb,F⟩:=C
 exact Zmp hM F hr hg hm hb .nil hx ha hdb he hpl
theorem Zc1 {c m:Str}{k:Nat}{ps:List Str}{sp:Sp}{E:XK}{e:Expr}{es:List Expr}{t:TA}{apos:Pos}{mg:Str->Option Value} (hmg:X.mg=mg) {pl:Sem Bool} (C:ZbS X.prog X.w X.K mg X.base c m k ps sp) (hr:Room k X.A) (hx:Passes (CXE X.prog X.w) X E) (he:PE X a ta)
  (ha:PA X (e::es) t) (hst:starEach (e::es) X.env=(false,eval e X.env)::starEach es X.env:=by rfl) (hpl:(backTo pos (starEach es X.env)).any (·.1)=false:=by rfl)
  (ht:eval (.Call (.Attribute a m apos) (e::es) [] pos) X.env=(do
   let ov <-eval a X.env
   standAt apos.atName
   let (f,first) <-holding [ov] (getMethod ov m pl)
   callWith pos f first (backTo pos (starEach (e::es) X.env)) (backToKw pos (keywordEach [] X.env))):=by rfl) :
  PE X (.Call (.Attribute a m apos) (e::es) [] pos) (tMeth (clsAt mg c) m sp [] E ta t):=by
 subst hmg
 obtain⟨f,fd,hc,hm,hb,F⟩:=C
 exact Zmo he hc hm F hr hb .nil hx ha hst hpl ht
end
end L2
namespace L2
open PySem PySem.Spec PyProof.Rows
section
variable {κ:Type} [DecidableEq κ]
noncomputable def Za3 (kvs:List (κ×V)) (k:κ):Option V:=(kvs.find? λkv=>decide (kv.1=k)).map (·.2)
noncomputable def putK (kvs:List (κ×V)) (k:κ) (v:V):List (κ×V) :=
 if (kvs.any λkv=>decide (kv.1=k))=true then kvs.map (λkv=>if kv.1=k then (kv.1,v)else kv)else kvs++[(k,v)]
theorem Zag {p:κ×V}{r:List (κ×V)}{k:κ} (e:p.1=k):Za3 (p::r) k=some p.2:=by simp[Za3,List.find?_cons,e]
theorem Zah {p:κ×V}{r:List (κ×V)}{k:κ} (e:¬ p.1=k):Za3 (p::r) k=Za3 r k:=by simp[Za3,List.find?_cons,e]
theorem ZbC (k:κ):∀kvs:List (κ×V),(kvs.any λkv=>decide (kv.1=k))=(Za3 kvs k).isSome
 |[]=>rfl
 |p::r=>by
  rw[List.any_cons]
  by_cases e:p.1=k
  ·simp only[Zag e,YL e,Bool.true_or,Option.isSome_some]
  ·rw[Zah e,YI e,Bool.false_or];exact ZbC k r
theorem ZhN (k j:κ) (y:V):∀kvs:List (κ×V),Za3 (kvs.map λkv=>if kv.1=k then (kv.1,y)else kv) j=(Za3 kvs j).map λx=>if j=k then y else x
 |[]=>rfl
 |p::r=>by
  have ih:=ZhN k j y r
  rw[YB]
  by_cases h:p.1=k
  ·rw[Yc h]
   by_cases e:p.1=j
   ·rw[Zag (p:=(p.1,y)) e,Zag e,Option.map_some,Yc (e.symm.trans h)]
   ·rw[Zah (p:=(p.1,y)) e,Zah e,ih]
  ·rw[Ya h]
   by_cases e:p.1=j
   ·rw[Zag (p:=p) e,Zag e,Option.map_some,Ya (λz=>h (e.trans z))]
   ·rw[Zah (p:=p) e,Zah e,ih]
theorem ZgE (k j:κ) (y:V):∀kvs:List (κ×V),Za3 kvs k=none->Za3 (kvs++[(k,y)]) j=if j=k then some y else Za3 kvs j
 |[],_=>by
  by_cases e:k=j
  ·rw[Yc e.symm];exact Zag (p:=(k,y)) e
  ·rw[Ya (λz=>e z.symm)];exact Zah (p:=(k,y)) e
 |p::r,hn=>by
  rw[List.cons_append]
  have hk:¬ p.1=k:=λz=>by rw[Zag z]at hn;cases hn
  rw[Zah hk]at hn
  have ih:=ZgE k j y r hn
  by_cases e:p.1=j
  ·rw[Zag e,Zag e,Ya (λz=>hk (e.trans z))]
  ·rw[Zah e,Zah e,ih]
theorem ZhO (kvs:List (κ×V)) (k j:κ) (y:V):Za3 (putK kvs k y) j=if j=k then some y else Za3 kvs j:=by
 unfold putK
 by_cases a:(kvs.any λkv=>decide (kv.1=k))=true
 ·rw[Yc a,ZhN]
  rw[ZbC]at a
  by_cases e:j=k
  ·obtain⟨x,hx⟩:=Option.isSome_iff_exists.mp a
   rw[Yc e,e,hx,Option.map_some,Yc rfl]
  ·rw[Ya e]
   cases Za3 kvs j with
   |none=>rfl
   |some x=>rw[Option.map_some,Ya e]
 ·rw[Ya a]
  refine ZgE k j y kvs ?_
  rw[ZbC]at a
  cases q:Za3 kvs k with
  |none=>rfl
  |some x=>rw[q]at a;exact(a rfl).elim
theorem ZeS (kvs:List (κ×V)) (k:κ) (v:V):(putK kvs k v).length<=kvs.length+1:=by
 unfold putK
 split
 ·rw[Yf];omega
 ·rw[Yy,Yn,List.length_nil];omega
theorem ZkX {kvs:List (κ×V)}{k:κ} (v:V) (h:Za3 kvs k=none):putK kvs k v=kvs++[(k,v)]:=by
 unfold putK
 rw[ZbC,h]
 exact Ya (by decide)
theorem Zds.ZeC {o:Option V}{u:Option Value} (r:Zds o u):o.isSome=u.isSome:=by
 cases o with
 |none=>cases u with
  |none=>rfl
  |some _=>exact(show False from r).elim
 |some _=>cases u with
  |none=>exact(show False from r).elim
  |some _=>rfl
theorem KV.val {kvs:List (κ×V)}{vs:List (κ×Value)} (r:KV kvs vs) (k:κ):Zds (Za3 kvs k) (valueAt vs k):=by
 unfold KV at r
 induction r with
 |nil=>exact True.intro
 |@cons p q ps qs h t ih =>
  obtain⟨h1,h2⟩:=h
  by_cases e:p.1=k
  ·have e':q.1=k:=h1.symm.trans e
   have b:valueAt (q::qs) k=some q.2:=by simp[valueAt,List.find?_cons,e']
   rw[Zag e,b];exact h2
  ·have e':¬ q.1=k:=λz=>e (h1.trans z)
   have b:valueAt (q::qs) k=valueAt qs k:=by simp[valueAt,List.find?_cons,e']
   rw[Zah e,b];exact ih
theorem KV.any {kvs:List (κ×V)}{vs:List (κ×Value)} (r:KV kvs vs) (k:κ):(kvs.any λkv=>decide (kv.1=k))=vs.any λkv=>decide (kv.1=k):=by
 unfold KV at r
 induction r with
 |nil=>rfl
 |cons h t ih=>rw[List.any_cons,List.any_cons,ih,h.1]
theorem KV.repl {kvs:List (κ×V)}{vs:List (κ×Value)} (r:KV kvs vs) (k:κ) {y:V}{u:Value} (ry:RelV y u) :
  KV (kvs.map λkv=>if kv.1=k then (kv.1,y)else kv) (vs.map λkv=>if kv.1=k then (kv.1,u)else kv):=by
 unfold KV at r⊢
 induction r with
 |nil=>exact .nil
 |@cons p q ps qs h t ih =>
  rw[YB,YB]
  refine .cons ?_ ih
  obtain⟨h1,h2⟩:=h
  by_cases e:p.1=k
  ·rw[Yc e,Yc (h1.symm.trans e)];exact⟨h1,ry⟩
  ·rw[Ya e,Ya (λz=>e (h1.trans z))];exact⟨h1,h2⟩
theorem KV.put {kvs:List (κ×V)}{vs:List (κ×Value)} (r:KV kvs vs) (k:κ) {y:V}{u:Value} (ry:RelV y u):KV (putK kvs k y) (stored vs k u):=by
 unfold putK stored
 rw[r.any k]
 by_cases e:(vs.any λkv=>decide (kv.1=k))=true
 ·rw[Yc e,Yc e];exact r.repl k ry
 ·rw[Ya e,Ya e];exact Paired.snoc r ⟨rfl,ry⟩
theorem KV.length {kvs:List (κ×V)}{vs:List (κ×Value)} (r:KV kvs vs):kvs.length=vs.length:=Paired.length r
end
theorem Zjb {P:Program}{w:World}{k:Key}{u:Value} (r:RelV (kV k) u):(Zae P w).is k u=true:=by
 cases k with
 |inl i=>obtain⟨t,e⟩:=(show ∃t,u=Value.int i t from r);subst e;exact Zho P w i t
 |inr x=>obtain⟨t,e⟩:=(show ∃t,u=Value.str x t from r);subst e;exact Zhp P w x t
theorem ZgF {P:Program}{w:World}:∀{ks:List Key}{us:List Value},Vals (ks.map kV) us->ItemsAre (Zae P w) ks us
 |[],_,r=>by rw[List.map_nil]at r;cases r;exact .nil
 |k::ks,_,r=>by
  rw[YB]at r
  cases r with
  |cons h t=>exact .cons (Zjb h) (ZgF t)
noncomputable abbrev KT (H:Hp):List (List Key×V)->List (List Key×Addr×Value)->Prop:=Paired λp q=>p.1=q.1/\H q.2.1=some (.tup (p.1.map kV))/\RelV p.2 q.2.2
theorem KT.val {H:Hp}{kvs:List (List Key×V)}{xs:List (List Key×Addr×Value)} (r:KT H kvs xs) (k:List Key):Zds (Za3 kvs k) ((atKey xs k).map (·.2)):=by
 induction r with
 |nil=>exact True.intro
 |@cons p q ps qs h t ih =>
  obtain⟨h1,_,h2⟩:=h
  by_cases e:p.1=k
  ·have e':q.1=k:=h1.symm.trans e
   have b:atKey (q::qs) k=some q.2:=by simp[atKey,List.find?_cons,e']
   rw[Zag e,b];exact h2
  ·have e':¬ q.1=k:=λz=>e (h1.trans z)
   have b:atKey (q::qs) k=atKey qs k:=by simp[atKey,List.find?_cons,e']
   rw[Zah e,b];exact ih
theorem KT.repl {H:Hp}{kvs:List (List Key×V)}{xs:List (List Key×Addr×Value)} (r:KT H kvs xs) (k:List Key) {y:V}{u:Value} (ry:RelV y u) :
  KT H (kvs.map λkv=>if kv.1=k then (kv.1,y)else kv) (xs.map (putAt k u)):=by
 induction r with
 |nil=>exact .nil
 |@cons p q ps qs h t ih =>
  rw[YB,YB]
  refine .cons ?_ ih
  obtain⟨h1,h2,h3⟩:=h
  unfold putAt
  by_cases e:p.1=k
  ·rw[Yc e,Yc (h1.symm.trans e)];exact⟨h1,h2,ry⟩
  ·rw[Ya e,Ya (λz=>e (h1.trans z))];exact⟨h1,h2,h3⟩
theorem KT.put {H:Hp}{kvs:List (List Key×V)}{xs:List (List Key×Addr×Value)} (r:KT H kvs xs) (k:List Key) {b:Addr}{y:V}{u:Value} (hb:H b=some (.tup (k.map kV))) (ry:RelV y u) :
  KT H (putK kvs k y) (storedH xs k b u):=by
 have e:(kvs.any λkv=>decide (kv.1=k))=(atKey xs k).isSome:=by
  rw[ZbC,(r.val k).ZeC,Option.isSome_map]
 unfold putK storedH
 rw[e]
 by_cases q:(atKey xs k).isSome=true
 ·rw[Yc q,Yc q];exact r.repl k ry
 ·rw[Ya q,Ya q];exact Paired.snoc r ⟨rfl,hb,ry⟩
theorem KT.keeps {H H':Hp}{kvs:List (List Key×V)}{xs:List (List Key×Addr×Value)} (r:KT H kvs xs) (ht:∀b ys,H b=some (.tup ys)->H' b=some (.tup ys)):KT H' kvs xs :=
 Paired.mapP r λ_ _ z=>⟨z.1,ht _ _ z.2.1,z.2.2⟩
section
variable {P:Program}{w:World}{H:Hp}{h:Heap}{a:Addr}
theorem rd_of {u:HO} (ok:HOk P w H h) (e:Rd H a u):ZJ P w H h a u:=e.ok ok
theorem Zjc {kvs:List (Key×V)} (ok:HOk P w H h) (e:Rd H a (.dK kvs)):kvs.length<=sizeLine/\(a==sysModules)=false/\∃vs,KV kvs vs/\h.DictOf (Zae P w) a vs :=
 show ZJ P w H h a (.dK kvs)from rd_of ok e
theorem dk_of {kvs:List (Key×V)} (ok:HOk P w H h) (e:H a=some (.dK kvs)):kvs.length<=sizeLine/\(a==sysModules)=false/\∃vs,KV kvs vs/\h.DictOf (Zae P w) a vs:=Zjc ok (.inl e)
theorem Zg9 {ks:List Key} (ok:HOk P w H h) (e:H a=some (.tup (ks.map kV))):(tupleKind (Zae P w)).is h ks a:=by
 obtain⟨_,its,r,o,h1,h2,n,h3⟩:=(show ZJ P w H h a (.tup (ks.map kV))from ok a _ e)
 exact⟨o,its.toArray,n,h1,h2,h3,by simpa using ZgF r⟩
theorem Zjd {kvs:List (List Key×V)} (ok:HOk P w H h) (e:Rd H a (.dT kvs)):kvs.length<=sizeLine/\(a==sysModules)=false /\
  ∃xs,KT H kvs xs/\h.DictOfH (tupleKind (Zae P w)) a xs:=by
 obtain⟨z,y,xs,r,o,es,ep,h1,h2,h3,h4,h5⟩:=(show ZJ P w H h a (.dT kvs)from rd_of ok e)
 refine⟨z,y,xs,r,o,es,ep,h1,h2,h3,h4,λx hx=>?_,h5⟩
 have all:∀{l:List (List Key×V)}{m:List (List Key×Addr×Value)},KT H l m->∀x∈m,(tupleKind (Zae P w)).is h x.1 x.2.1:=by
  intro l m q
  induction q with
  |nil=>intro x hx;exact nomatch hx
  |@cons p q ps qs hq t ih =>
   intro x hx
   rcases Yl.mp hx with e|hx
   ·subst e
    exact Zg9 ok (by rw[<-hq.1];exact hq.2.1)
   ·exact ih x hx
 exact all r x hx
theorem dt_of {kvs:List (List Key×V)} (ok:HOk P w H h) (e:H a=some (.dT kvs)):kvs.length<=sizeLine/\(a==sysModules)=false /\
  ∃xs,KT H kvs xs/\h.DictOfH (tupleKind (Zae P w)) a xs:=Zjd ok (.inl e)
end
noncomputable def DGet (H:Hp) (a:Addr) (y:V) (r:Option V):Prop :=
 (∃kvs k,Rd H a (.dK kvs)/\y=kV k/\r=Za3 kvs k)\/∃kvs k b,Rd H a (.dT kvs)/\y=.ref b/\H b=some (.tup (k.map kV))/\r=Za3 kvs k
noncomputable def DPut (H:Hp) (a:Addr) (y v:V) (H':Hp):Prop :=
 (∃kvs k,H a=some (.dK kvs)/\y=kV k/\kvs.length<sizeLine/\H'=upd H a (.dK (putK kvs k v))) \/
 ∃kvs k b,H a=some (.dT kvs)/\y=.ref b/\H b=some (.tup (k.map kV))/\kvs.length<sizeLine/\H'=upd H a (.dT (putK kvs k v))
section
variable {X:Cx}{pins:List (Addr×Obj)}{σ:St}{H:Hp}{s:Shared}{a:Addr}{y v:V}{u r:Value}{o:Option V}{A:Around}{E:Value->Shared->Prop}
theorem Inv.big (I:Inv X pins σ H s):sysModules<s.heap.objs.size:=by
 have h:mainGlobals<s.heap.objs.size:=(I.mod.glob.keeps I.bk).lt
 exact Nat.lt_trans (by decide) h
theorem ZjP {Q:Value->Shared->Prop} (hu:A.units+1<cLine) (I:Inv X pins σ H s) (g:DGet H a y (some v)) (ry:RelV y u) (h:∀w' s',Inv X pins σ H s'->RelV v w'->Q w' s') :
  wpAny (model X.prog X.w) A (getItem (.ref a) u) Q E s:=by
 rcases g with⟨kvs,k,e,ey,l⟩|⟨kvs,k,b,e,ey,eb,l⟩
 ·subst ey
  obtain⟨z,hd,vs,rel,dd⟩:=Zjc I.hok e
  obtain⟨w',hw,rw'⟩:=Zds.some_of (v:=v) (o:=valueAt vs k) (by rw[l];exact rel.val k)
  exact wpAny_getItem_of (Zjb ry) dd.mapOf hw (h w' _ (I.tok _) rw')
 ·subst ey
  cases(show u=Value.ref b from ry)
  obtain⟨z,hd,xs,rel,dd⟩:=Zjd I.hok e
  obtain⟨w',hw,rw'⟩:=Zds.some_of (v:=v) (o:=(atKey xs k).map (·.2)) (by rw[l];exact rel.val k)
  obtain⟨p,hp,hp2⟩:=Option.map_eq_some_iff.mp hw
  refine wpAny_getItem_heap (tupleKind_room_in1 hu) (Zg9 I.hok eb) dd hp ?_
  rw[hp2]
  exact h w' _ (I.tok _) rw'
theorem ZmH {Q:Value->Shared->Prop} (hu:A.units+1<cLine) (I:Inv X pins σ H s) (g:DGet H a y o) (ry:RelV y u) (h:∀s',Inv X pins σ H s'->Q (.bool (!o.isSome)) s') :
  wpAny (model X.prog X.w) A (compareOp .NotIn u (.ref a)) Q E s:=by
 rcases g with⟨kvs,k,e,ey,l⟩|⟨kvs,k,b,e,ey,eb,l⟩
 ·subst ey
  obtain⟨z,hd,vs,rel,dd⟩:=Zjc I.hok e
  refine wpAny_notIn_of (Zjb ry) hd dd.mapOf ?_
  rw[<-(rel.val k).ZeC,<-l]
  exact h _ (I.tok _)
 ·subst ey
  cases(show u=Value.ref b from ry)
  obtain⟨z,hd,xs,rel,dd⟩:=Zjd I.hok e
  refine wpAny_notIn_heap (tupleKind_room_in1 hu) (Zg9 I.hok eb) hd dd ?_
  have q:=(rel.val k).ZeC
  rw[Option.isSome_map]at q
  rw[<-q,<-l]
  exact h _ (I.tok _)
theorem Zje {h':Heap}{t':Nat}{ob:HO} (I:Inv X pins σ H s) (mu:Mut (H a)) (hs:Heap.SameBut a s.heap h') (he:∃q,h'.get? a=some q) (new:ZJ X.prog X.w (upd H a ob) h' a ob) :
  Inv X pins σ (upd H a ob) {s with heap:=h',toks:=t'} :=
 I.write (x:=a) (e:=a) mu (.inl rfl) (λb q hb z=>(hs.2 b hb).trans z) he new
theorem dk_new {P:Program}{w:World}{H':Hp}{h':Heap}{kvs:List (Key×V)}{vs:List (Key×Value)} (z:kvs.length<=sizeLine) (hd:(a==sysModules)=false) (rel:KV kvs vs) (dd:h'.DictOf (Zae P w) a vs) :
  ZJ P w H' h' a (.dK kvs):=⟨z,hd,vs,rel,dd⟩
theorem ZjQ {H':Hp}{Q:Unit->Shared->Prop} (hu:A.units+1<cLine) (I:Inv X pins σ H s) (g:DPut H a y v H') (ry:RelV y u) (rv:RelV v r) (h:∀s',Inv X pins σ H' s'->Q () s') :
  wpAny (model X.prog X.w) A (setItem (.ref a) u r) Q E s:=by
 rcases g with⟨kvs,k,e,ey,l,eH⟩|⟨kvs,k,b,e,ey,eb,l,eH⟩
 ·subst ey eH
  obtain⟨z,hd,vs,rel,dd⟩:=dk_of I.hok e
  have hz:vs.length<=sizeLine:=by rw[<-rel.length];exact z
  have hl:(putK kvs k v).length<=sizeLine:=by have:=ZeS kvs k v;omega
  refine wpAny_setItem_pairs (hsz:=hz) (Zjb ry) dd λh' dd' hs=>h _ ?_
  have he:∃q,h'.get? a=some q:=let ⟨q,_,_,hq,_⟩:=dd';⟨q,hq⟩
  exact Zje I (by rw[e];exact True.intro) hs he (dk_new hl hd (rel.put k rv) dd')
 ·subst ey eH
  cases(show u=Value.ref b from ry)
  obtain⟨z,hd,xs,rel,dd⟩:=dt_of I.hok e
  have hz:xs.length<=sizeLine:=by rw[<-Paired.length rel];exact z
  have hl:(putK kvs k v).length<=sizeLine:=by have:=ZeS kvs k v;omega
  refine wpAny_setItem_heap (hsz:=hz) (tupleKind_room_in1 hu) (Zg9 I.hok eb) dd λh' dd' hs=>h _ ?_
  obtain⟨q,es,ep,hq,h2,h3,h4,_,h5⟩:=dd'
  refine Zje I (by rw[e];exact True.intro) hs ⟨q,hq⟩ ⟨hl,hd,_,(rel.put k eb rv).keeps λc ys ec=>?_,q,es,ep,hq,h2,h3,h4,h5⟩
  rw[Zh (ne_of ec e (λz=>nomatch z))]
  exact ec
end
noncomputable def NoSl (i:Expr):Prop:=∀ov iv,subscripted i false ov iv=operate [ov,iv] (getItem ov iv)
theorem ZmI {prog:Program}{w:World}{A:Around}{E:Value->Shared->Prop}{s:Shared}{env:Env}{value slice:Expr}{pos:Pos}{T id:String}{Q:Value->Shared->Prop}
  (hl:typeLookup (.type T) "__getitem__"=pure (some (.builtin id))) (hs:NoSl slice)
  (h:wpAny (model prog w) A (eval value env) (λo s₁=>wpAny (model prog w) A (eval slice env) (λi s₂=>s₂.TypeIs o T/\wpAny (model prog w) A (getItem o i) Q E s₂) E s₁) E s) :
  wpAny (model prog w) A (eval (.Subscript value slice pos) env) Q E s:=by
 refine Subscript_ (YH h (λo s₁ h₁=>YH h₁ (λi s₂ h₂=>?_) λ_ _ x=>x) λ_ _ x=>x)
 obtain⟨hT,h₂⟩:=h₂
 unfold subscriptTail
 refine Yb ?_
 rw[getitemInPython_of_ne hT.not_modules]
 refine Yb (wpAny_specialOf hT hl ?_)
 have fin:wpAny (model prog w) A (subscripted slice false o i) (λr s₃=>wpAny (model prog w) A (letTemporaryGo value o r >>= λ_=>pure r) Q E s₃) E s₂:=by
  rw[hs o i]
  exact wpAny_operating (YH h₂ (λr s₃ h₃=>Yb (wpAny_letTemporaryGo (Yg h₃))) λ_ _ x=>x)
 first
  |exact Yg (Yb fin)
  |exact Yb (Yg (Yb fin))
  |exact Yb fin
theorem ZhP {X:Cx}{pins:List (Addr×Obj)}{σ:St}{H:Hp}{s:Shared}{a:Addr}{y:V}{o:Option V} (I:Inv X pins σ H s) (g:DGet H a y o):s.TypeIs (.ref a) "dict":=by
 rcases g with⟨kvs,k,e,_,_⟩|⟨kvs,k,b,e,_,_,_⟩
 ·obtain⟨_,_,vs,_,dd⟩:=Zjc I.hok e
  exact dd.typeIs
 ·obtain⟨_,_,xs,_,dd⟩:=Zjd I.hok e
  exact dd.typeIs
noncomputable def tDGet (td ty:TE):TE:=fun σ H Q=>td σ H λx H1=>ty σ H1 λy H2=>∃a v,x=.ref a/\DGet H2 a y (some v)/\Q v H2
noncomputable def tDNotIn (ty td:TE):TE:=fun σ H Q=>ty σ H λy H1=>td σ H1 λx H2=>∃a o,x=.ref a/\DGet H2 a y o/\Q (.bl (!o.isSome)) H2
noncomputable def sDPut (td ty tv:TE):TS:=λD σ H=>tv σ H λv H1=>td σ H1 λx H2=>ty σ H2 λy H3=>∃a H4,x=.ref a/\DPut H3 a y v H4/\D.nx σ H4
section
variable {X:Cx}{o i e value:Expr}{pos pos' tpos:Pos}{td ty tv:TE}
theorem ZmJ (hu:X.A.units+1<cLine) (ho:PE X o td) (hi:PE X i ty) (hs:NoSl i):PE X (.Subscript o i pos) (tDGet td ty):=by
 intro pins s σ H Q I h
 refine ZmI PySem.F.slot_dict_getitem.lookup hs (thn (ho pins s σ H _ I h) λu s1 ⟨x,H1,I1,rx,q1⟩=>thn (hi pins s1 σ H1 _ I1 q1) λiv s2 ⟨y,H2,I2,ry,a,v,ex,g,q2⟩=>?_)
 subst ex
 obtain rfl:u=Value.ref a:=rx
 exact⟨ZhP I2 g,ZjP hu I2 g ry λw' s3 I3 rw'=>⟨v,H2,I3,rw',q2⟩⟩
theorem ZjR (hu:X.A.units+1<cLine) (hi:PE X i ty) (ho:PE X o td):PC X .NotIn i o (tDNotIn ty td):=by
 intro pins s σ H Q I h
 refine thn (hi pins s σ H _ I h) λiv s1 ⟨y,H1,I1,ry,q1⟩=>thn (ho pins s1 σ H1 _ I1 q1) λu s2 ⟨x,H2,I2,rx,a,ov,ex,g,q2⟩=>?_
 subst ex
 obtain rfl:u=Value.ref a:=rx
 exact ZmH hu I2 g ry λs3 I3=>⟨.bl (!ov.isSome),H2,I3,rfl,q2⟩
theorem ZmK (hu:X.A.units+1<cLine) (ho:PE X o td) (hi:PE X i ty) (hv:PE X value tv) (hs:swapsWith value (some (.Subscript o i pos')) pos.line X.env=pure false) :
  PS X (.Assign [.Subscript o i pos'] value pos) (sDPut td ty tv):=by
 intro pins s σ H D I h
 refine wpAny_Assign_Subscript (thn (hv pins s σ H _ I h) λr s1 ⟨v,H1,I1,rv,q1⟩=>thn (ho pins s1 σ H1 _ I1 q1) λu s2 ⟨x,H2,I2,rx,q2⟩=>thn (hi pins s2 σ H2 _ I2 q2) λiv s3 ⟨y,H3,I3,ry,a,H4,ex,g,q3⟩=>?_) hs
 subst ex
 obtain rfl:u=Value.ref a:=rx
 exact ZjQ hu I3 g ry rv λs4 I4=>⟨σ,H4,I4,q3⟩
end
theorem ZkY {P:Program}{w:World}{H:Hp} (h:Heap) (hb:sysModules<h.objs.size):ZJ P w H (h.push {cls:=.type "dict",data:=.dict #[]}) h.objs.size (.dT []) :=
 ⟨Yu _,beq_eq_false_iff_ne.mpr (Ne.symm (Yo hb)),[],.nil,_,#[],0,Yz _ rfl,⟨rfl,rfl,rfl⟩,rfl,rfl,List.nodup_nil⟩
noncomputable def tDNewT:TE:=λ_ H Q=>∀p,H p=none->Q (.ref p) (upd H p (.dT []))
section
variable {X:Cx}{pos:Pos}
theorem ZkZ:PE X (.Dict [] [] pos) tDNewT:=λpins s σ H Q I h =>
 wpAny_Dict_empty ⟨.ref s.heap.objs.size,_,I.laid (a:=s.heap.objs.size) (o:=.dT []) (t':=s.toks) (λ_ _ q=>Ym _ q) (Yd _) (ZkY s.heap I.big),rfl,h _ (I.hok.fresh (Yd _))⟩
end
section
variable {κ:Type} [DecidableEq κ]
theorem Zk0 {kvs:List (κ×V)}{k:κ} (h:Za3 kvs k=none):¬ k∈kvs.map (·.1):=by
 intro m
 obtain⟨p,hp,e⟩:=YG.mp m
 have q:(kvs.any λkv=>decide (kv.1=k))=true:=List.any_eq_true.mpr ⟨p,hp,YL e⟩
 rw[ZbC,h]at q
 exact absurd q (by simp)
theorem Zjf:∀{l:List κ}{k:κ},l.Nodup->¬ k∈l->(l++[k]).Nodup
 |[],k,_,_=>by simp
 |a::r,k,h,hk=>by
  obtain⟨h1,h2⟩:=List.nodup_cons.mp h
  show(a::(r++[k])).Nodup
  refine List.nodup_cons.mpr ⟨λm=>?_,Zjf h2 λm=>hk (Yl.mpr (Or.inr m))⟩
  rcases Yq.mp m with q|q
  ·exact h1 q
  ·exact hk (Yl.mpr (Or.inl (YF.mp q).symm))
theorem ZmL {kvs:List (κ×V)}{k:κ} (v:V) (hn:(kvs.map (·.1)).Nodup) (h:Za3 kvs k=none):((putK kvs k v).map (·.1)).Nodup:=by
 rw[ZkX v h,YM]
 exact Zjf hn (Zk0 h)
end
end L2
namespace L2
open PySem PySem.Spec PyProof.Rows PySem.W PySem.Calls
end L2
namespace L2
open PySem PySem.Spec PyProof.Rows PySem.W
theorem ZmM {M:Program}{w:World}{A:Around}{E:Value->Shared->Prop}{s:Shared}{t b:Addr}{vs ws:List Value}{Q:Value->Shared->Prop} (ht:IsTup s.heap t vs.toArray) (hb:IsTup s.heap b ws.toArray) (hv:vs=[]) (h:Q (.ref b) s):wpAny (model M w) A (binaryOp .Add (.ref t) (.ref b)) Q E s:=by
 obtain⟨⟨k1,d1,x1,l1⟩,e1,c1,n1,y1⟩:=id ht
 obtain⟨⟨k2,d2,x2,l2⟩,e2,c2,n2,y2⟩:=id hb
 simp only at c1 y1 c2 y2
 subst c1 y1 c2 y2
 exact concat_meets ⟨_,e1,rfl⟩ ⟨_,e2,rfl⟩ noFill_tuple_add seq_tuple_add PySem.F.slot_tuple_add PySem.F.entry_tuple_add (PySem.F.args_tuple_add_2 _ _) (tuple_addW0 t b vs.toArray ws.toArray n1 n2 d1 d2 l1 l2 (by simp[hv])) ⟨e1,e2,h⟩
section
variable {X:Cx}
noncomputable def rCatU:R2:=λx y H Q=>∃(a b:Addr) (xs ys:List V),x=.ref a/\y=.ref b/\H a=some (.tup xs)/\H b=some (.tup ys)/\xs.length+ys.length<=sizeLine/\∀(p:Addr) H',Zf H H'->H' p=some (.tup (xs++ys))->Q (.ref p) H'
theorem ZmN:OpR X (binaryOp .Add) rCatU:=by
 intro pins s σ H x y v u Q I rx ry h
 obtain⟨a,b,xs,ys,rfl,rfl,ha,hb,hz,q⟩:=h
 cases rx
 cases ry
 obtain⟨its,r1,p1,_⟩:=I.tuple (SqT.of ha)
 obtain⟨its2,r2,p2,_⟩:=I.tuple (SqT.of hb)
 by_cases hx:xs=[]
 ·exact ZmM p1 p2 (r1.ZgS.mpr hx) ⟨.ref b,H,I,rfl,q b H (Zf.refl H) (by rw[hx];exact hb)⟩
 refine HT.Zmq p1 p2 (λz=>hx (r1.ZgS.mp z)) (λz=>⟨.ref a,H,I,rfl,q a H (Zf.refl H) (by rw[r2.ZgS.mp z,List.append_nil];exact ha)⟩) (λz=>?_) (by rw[<-r1.length,<-r2.length];exact hz)
 refine⟨.ref s.heap.objs.size,_,I.laid (t':=s.toks) (o:=.tup (xs++ys)) (λb ob q=>Ym _ q) (Yd _) ?_,rfl,q _ _ ((Zf.refl H).upd (I.hok.fresh (Yd _))) Zc⟩
 exact⟨by rw[Yy];exact hz,_,r1.append r2,IsTup.new _ _⟩
end
noncomputable def sF (r:Addr) (f:Int) (t:Addr):List (Str×V):=Zbc "tree" (.ref t) (Zbc "first" (.int f) (Zbc "row" (.ref r) []))
noncomputable abbrev itO (l:Addr):Obj:={cls:=.type "list_iterator",data:=.fields #[.ref l,.int 0 0]}
noncomputable abbrev zA (h:Heap) (a:Addr):Heap:=h.push (itO a)
noncomputable abbrev zB (h:Heap) (a b:Addr):Heap:=(zA h a).push (itO b)
section
variable {X:Cx}
theorem pe_bmK {K:Frag}{T:String}{id:String}{name:Str}{r:V->List V->Hp->VK->Prop}{o e:Expr}{es:List Expr}{to:TE}{t:TA}{apos cpos:Pos} (hK:X.K=K) (pa:PlainAttrs T) (slot:Slot T name id) (hty:typeOf (.builtin id)=pure (.type "method_descriptor")) (hm:MtM X id r) (ho:PE X o to) (ha:PA X (e::es) t)
  (hbase:attributeBase o name X.env (eval o X.env)=eval o X.env:=by rfl)
  (hfew:((backTo cpos (starEach (e::es) X.env)).all (λx=>!x.1)&&(backToKw cpos (keywordEach [] X.env)).all (λx=>x.1.isSome)
   && decide ((e::es).length+([]:List Keyword).length+(if ([]:List Keyword).isEmpty then 0 else 1)<30))=true:=by rfl)
  (hline:(apos.endLine==cpos.line)=true:=by rfl) (hs:starEach (e::es) X.env=(false,eval e X.env)::starEach es X.env:=by rfl) (hplain:(backTo cpos (starEach es X.env)).any (·.1)=false:=by rfl) :
  PE X (.Call (.Attribute o name apos) (e::es) [] cpos) (tBM K T r to t):=by
 subst hK
 exact ZdZ pa slot hty hm ho ha hbase hfew hline hs hplain
end
end L2
namespace L2
open PySem PySem.Spec PyProof.Rows PySem.W PySem.Calls
end L2
namespace L2
open PySem PySem.Spec PyProof.Rows PySem.W
section
variable {prog:Program}{w:World}{A:Around}{E:Value->Shared->Prop}{s:Shared}
theorem ZgG {it t:Addr}{items:Array Value} (hh:A.handled=none) (hne:t≠it):∀(n i:Nat) (s:Shared) (Q:List Value->Shared->Prop),s.heap.IsListIter it t i->s.heap.IsList t items->i+n<=items.size ->
  (∀h' tk,h'.IsListIter it t (i+n)->h'.IsList t items->(∀b o,b≠it->s.heap.get? b=some o->h'.get? b=some o)->Q ((items.toList.drop i).take n) {s with heap:=h',toks:=tk})->wpAny (model prog w) A (draw (.ref it) n) Q E s
 |0,i,s,Q,hit,hl,_,hQ=>by
  show wpAny _ _ (pure []) Q E s
  exact Yg (by simpa using hQ s.heap s.toks hit hl λb o _ e=>e)
 |n+1,i,s,Q,hit,hl,hle,hQ=>by
  have hlt:i<items.size:=by omega
  have W:=Walks.list (prog:=prog) (w:=w) (A:=A) hh it t hne items
  show wpAny _ _ (pyNext (.ref it) >>= _) Q E s
  refine Yb (W.item i _ _ _ hlt ⟨hit,hl⟩ λv h₁ tk₁ hP hst hk=>?_)
  have hv:items[i]?=some v:=hP
  rw[getElem?_pos items i hlt]at hv
  cases hv
  refine Yb (wpAny_holding (ZgG hh hne n (i+1) _ _ hst.1 hst.2 (by omega) λh₂ tk₂ hit₂ hl₂ hk₂=>Yg ?_))
  have hd:items.toList.drop i=items[i]::items.toList.drop (i+1):=by simp[List.drop_eq_getElem_cons,hlt]
  have:=hQ h₂ tk₂ (by rw[show i+(n+1)=i+1+n by omega];exact hit₂) hl₂ λb o hb e=>hk₂ b o hb (hk b o (by simpa using hb) e)
  rw[hd,List.take_succ_cons]at this
  exact this
theorem ZeD {t:Addr}{items:Array Value}{Q:List Value->Shared->Prop} (hh:A.handled=none) (ht:s.heap.IsList t items)
  (hQ:∀h' tk,(∀b o,s.heap.get? b=some o->h'.get? b=some o)->Q items.toList {s with heap:=h',toks:=tk}):wpAny (model prog w) A (unpackItems (.ref t) items.size none) Q E s:=by
 have hlt:t≠s.heap.objs.size:=by obtain⟨o,ho,_⟩:=ht;exact Yo (Yi ho)
 have old:∀b o,s.heap.get? b=some o->b≠s.heap.objs.size:=λb o e=>Yo (Yi e)
 unfold unpackItems
 refine Yb ?_
 ·unfold notIterableAtAll
  refine Yb (wpAny_specialOf ht.typeIs slot_list_iter.lookup ?_)
  refine Yg ?_
  simp only[Bool.false_eq_true,if_false]
  refine Yb (wpAny_holding (wpAny_pyIter_list ht ?_))
  have hl2:(s.heap.push {cls:=.type "list_iterator",data:=.fields #[.ref t,.int 0 0]}).IsList t items:=by
   obtain⟨o,e,r⟩:=ht
   exact⟨o,Ym _ e,r⟩
  refine Yb (wpAny_holding (ZgG hh hlt items.size 0 _ _ ⟨_,Yz _ rfl,rfl,rfl⟩ hl2 (by omega) λh₁ tk₁ hit₁ hl₁ hk₁=>?_))
  have hall:List.take items.size (List.drop 0 items.toList)=items.toList:=by
   rw[List.drop_zero];exact List.take_of_length_le (by simp)
  rw[hall]
  rw[Ya (by simp)]
  have W:=Walks.list (prog:=prog) (w:=w) (A:=A) hh s.heap.objs.size t hlt items
  refine Yb (wpAny_holding (W.done _ _ _ ⟨by rw[Nat.zero_add]at hit₁;exact hit₁,hl₁⟩ λh₂ tk₂ hk₂=>?_))
  simp only[Option.isSome_none,Bool.false_eq_true,if_false]
  exact Yg (hQ h₂ tk₂ λb o e=>hk₂ b o (by simpa using old b o e) (hk₁ b o (old b o e) (Ym _ e)))
end
section
variable {X:Cx}
noncomputable def gLst (K:PySem.W.Frag) (n:Nat) (t:TGs):TG:=λv σ H Q=>∃a xs,v=.ref a/\SqL K H a xs/\xs.length=n/\t xs σ H Q
theorem pg_lst {K:Frag}{es:List Expr}{pos:Pos}{k:Nat}{t:TGs}{n:Nat} (hK:X.K=K) (hc:X.calm=true) (h:PGs X es t)
  (hn:(assignEach es X.env).length=n:=by rfl) (hst:(assignEach es X.env).findIdx? (·.1)=none:=by rfl):PG X (.Tuple es k pos) (gLst K n t):=by
 subst hK
 intro pins s σ H v u Q I r hw
 obtain⟨a,xs,e1,hq,hl,hw⟩:=hw
 subst e1
 cases r
 obtain⟨its,rv,pl,hz⟩:=I.list hq
 have hlen:(assignEach es X.env).length=its.toArray.size:=by
  have:=rv.length
  rw[hn,Yj];omega
 rw[assign_Tuple]
 refine Yb (wpAny_standAt ?_)
 unfold unpack
 rw[hlen,hst]
 refine Yb (wpAny_holding (ZeD (I.ok.hd hc) pl.isList λh' tk kp=>?_))
 exact h pins _ σ H xs _ Q (I.kept kp) (by simpa using rv) hw
end
inductive EqN (K:Frag) (H:Hp):Nat->V->V->Bool->Prop
 |flat {n:Nat}{x y:V} (fx:flatV x=true) (fy:flatV y=true):EqN K H n x y (eqV x y)
 |lst {n:Nat}{a b:Addr}{xs ys:List V} (e:Nat->Bool) (hx:SqL K H a xs) (hy:SqL K H b ys) (hl:xs.length=ys.length) (h:∀j x y,xs[j]?=some x->ys[j]?=some y->EqN K H n x y (e j)):EqN K H (n+1) (.ref a) (.ref b) ((List.range xs.length).all e)
 |len {n:Nat}{a b:Addr}{xs ys:List V} (hx:SqL K H a xs) (hy:SqL K H b ys) (hl:xs.length≠ys.length):EqN K H (n+1) (.ref a) (.ref b) false
 |tup {n:Nat}{a b:Addr}{xs ys:List V} (e:Nat->Bool) (hx:SqT K H a xs) (hy:SqT K H b ys) (h:∀j x y,xs[j]?=some x->ys[j]?=some y->EqN K H n x y (e j)):EqN K H (n+1) (.ref a) (.ref b) ((List.range (min xs.length ys.length)).all e&&xs.length==ys.length)
 |nonT {n:Nat}{a:Addr}{xs:List V} (hx:SqT K H a xs):EqN K H n .non (.ref a) false
 |tNon {n:Nat}{a:Addr}{xs:List V} (hx:SqT K H a xs):EqN K H n (.ref a) .non false
 |iT {n:Nat}{i:Int}{a:Addr}{xs:List V} (hx:SqT K H a xs):EqN K H n (.int i) (.ref a) false
section
variable {X:Cx}{pins:List (Addr×Obj)}{σ:St}{H:Hp}{s:Shared}
theorem ZhQ (I:Inv X pins σ H s) {n:Nat}{x y:V}{b:Bool} (h:EqN X.K H n x y b):x=y->b=true:=by
 induction h with
 |flat fx fy=>rintro rfl;exact ZhD fx
 |lst e hx hy hl h ih =>
  intro z
  cases z
  have:=I.Zby hx hy
  subst this
  refine List.all_eq_true.mpr λj hj=>?_
  have hj':=YC.mp hj
  exact ih j _ _ (Ye hj') (Ye hj') rfl
 |len hx hy hl =>
  intro z
  cases z
  have:=I.Zby hx hy
  subst this
  exact absurd rfl hl
 |tup e hx hy h ih =>
  intro z
  cases z
  have:=I.Zdk hx hy
  subst this
  rw[Nat.min_self]
  have:(List.range _).all e=true:=List.all_eq_true.mpr λj hj=>by
   have hj':=YC.mp hj
   exact ih j _ _ (Ye hj') (Ye hj') rfl
  rw[this];simp
 |nonT hx=>intro z;cases z
 |tNon hx=>intro z;cases z
 |iT hx=>intro z;cases z
theorem Zk1 (I:Inv X pins σ H s) {n:Nat}{x y:V}{b:Bool} (h:EqN X.K H n x y b):∀(A:Around) (u v:Value),A.units+n<cLine->RelV x u->RelV y v->SeqAt.EqAt A s u v b:=by
 induction h with
 |flat fx fy=>intro A u v _ ru rv;exact Zky ru rv fx fy
 |@lst n a b xs ys e hx hy hl h ih =>
  intro A u v hu ru rv
  have hb:=ZhQ I (.lst e hx hy hl h)
  cases ru
  cases rv
  by_cases hab:a=b
  ·subst hab
   rw[hb rfl];exact SeqAt.EqAt.same _
  ·obtain⟨is1,r1,p1,_⟩:=I.list hx
   obtain⟨is2,r2,p2,_⟩:=I.list hy
   have e1:=r1.length
   have e2:=r2.length
   have key:=SeqAt.RcAt.lists (A:=A) (s:=s) (e:=e) p1.isList p2.isList (by simp;omega) (by omega) λj h1 h2=>by
    have h1':j<xs.length:=by simpa[e1]using h1
    have h2':j<ys.length:=by simpa[e2]using h2
    obtain⟨u,hu1,ru⟩:=r1.get (Ye h1')
    obtain⟨v,hv1,rv⟩:=r2.get (Ye h2')
    have eu:is1.toArray[j]=u:=by simpa using(Yk.mp hu1).2
    have ev:is2.toArray[j]=v:=by simpa using(Yk.mp hv1).2
    rw[eu,ev]
    exact ih j _ _ (Ye h1') (Ye h2') A.in1 u v (by show A.units+1+n<cLine;omega) ru rv
   have e3:is1.toArray.size=xs.length:=by simp[e1]
   rw[e3]at key
   exact SeqAt.EqAt.of_refs hab key
 |@len n a b xs ys hx hy hl =>
  intro A u v hu ru rv
  cases ru
  cases rv
  have hab:a≠b:=λz=>by subst z;exact hl (congrArg List.length (I.Zby hx hy))
  obtain⟨is1,r1,p1,_⟩:=I.list hx
  obtain⟨is2,r2,p2,_⟩:=I.list hy
  have e1:=r1.length
  have e2:=r2.length
  exact SeqAt.EqAt.of_refs hab (SeqAt.RcAt.lists_lengths p1.isList p2.isList (by simp;omega) (by omega))
 |@tup n a b xs ys e hx hy h ih =>
  intro A u v hu ru rv
  have hb:=ZhQ I (.tup e hx hy h)
  cases ru
  cases rv
  by_cases hab:a=b
  ·subst hab
   rw[hb rfl];exact SeqAt.EqAt.same _
  ·obtain⟨is1,r1,p1,_⟩:=I.tuple hx
   obtain⟨is2,r2,p2,_⟩:=I.tuple hy
   have e1:=r1.length
   have e2:=r2.length
   have key:=SeqAt.RcAt.tuples (A:=A) (s:=s) (e:=e) p1 p2 (by omega) λj h1 h2=>by
    have h1':j<xs.length:=by simpa[e1]using h1
    have h2':j<ys.length:=by simpa[e2]using h2
    obtain⟨u,hu1,ru⟩:=r1.get (Ye h1')
    obtain⟨v,hv1,rv⟩:=r2.get (Ye h2')
    have eu:is1.toArray[j]=u:=by simpa using(Yk.mp hu1).2
    have ev:is2.toArray[j]=v:=by simpa using(Yk.mp hv1).2
    rw[eu,ev]
    exact ih j _ _ (Ye h1') (Ye h2') A.in1 u v (by show A.units+1+n<cLine;omega) ru rv
   have e3:is1.toArray.size=xs.length:=by simp[e1]
   have e4:is2.toArray.size=ys.length:=by simp[e2]
   rw[e3,e4]at key
   exact SeqAt.EqAt.of_refs hab key
 |nonT hx =>
  intro A u v hu ru rv
  cases ru
  cases rv
  obtain⟨is1,r1,p1,_⟩:=I.tuple hx
  exact SeqAt.EqAt.none_tuple p1 (by omega)
 |tNon hx =>
  intro A u v hu ru rv
  cases ru
  cases rv
  obtain⟨is1,r1,p1,_⟩:=I.tuple hx
  exact SeqAt.EqAt.tuple_none p1 (by omega)
 |iT hx =>
  intro A u v hu ru rv
  obtain⟨t,rfl⟩:=ru
  cases rv
  obtain⟨is1,r1,p1,_⟩:=I.tuple hx
  exact SeqAt.EqAt.int_tuple _ _ p1 (by omega)
end
noncomputable def rEqN (K:Frag) (neg:Bool):R2:=λx y H Q=>∃a b k,x=.ref a/\y=.ref b/\EqN K H 3 x y k/\Q (.bl (if neg then !k else k)) H
section
variable {X:Cx}
theorem Zk2 {K:Frag} (hK:X.K=K) {k:Nat} (hr:Room k X.A):OpR X (compareOp .NotEq) (rEqN K true):=by
 subst hK
 have hu0:=hr.un
 intro pins s σ H x y v u Q I rx ry h
 obtain⟨a,b,k,rfl,rfl,h,q⟩:=h
 cases rx
 cases ry
 cases h with
 |flat fx fy=>cases fx
 |@lst n _ _ xs ys e hx hy hl h =>
  obtain⟨is1,r1,p1,_⟩:=I.list hx
  obtain⟨is2,r2,p2,_⟩:=I.list hy
  have e1:=r1.length
  have e2:=r2.length
  have e3:is1.toArray.size=xs.length:=by simp[e1]
  refine SeqAt.RcNeAt.lists (e:=e) p1.isList p2.isList (by simp;omega) (by omega) (λj h1 h2=>?_) _ _ _ _ ⟨.bl _,H,I,rfl,by rw[e3];exact q⟩
  have h1':j<xs.length:=by simpa[e1]using h1
  have h2':j<ys.length:=by simpa[e2]using h2
  obtain⟨u,hu1,ru⟩:=r1.get (Ye h1')
  obtain⟨v,hv1,rv⟩:=r2.get (Ye h2')
  have eu:is1.toArray[j]=u:=by simpa using(Yk.mp hu1).2
  have ev:is2.toArray[j]=v:=by simpa using(Yk.mp hv1).2
  rw[eu,ev]
  exact Zk1 I (h j _ _ (Ye h1') (Ye h2')) X.A.in1 u v (by show X.A.units+1+2<cLine;omega) ru rv
 |@len n _ _ xs ys hx hy hl =>
  obtain⟨is1,r1,p1,_⟩:=I.list hx
  obtain⟨is2,r2,p2,_⟩:=I.list hy
  have e1:=r1.length
  have e2:=r2.length
  exact SeqAt.RcNeAt.lists_lengths p1.isList p2.isList (by simp;omega) (by omega) _ _ _ _ ⟨.bl _,H,I,rfl,q⟩
 |@tup n _ _ xs ys e hx hy h =>
  obtain⟨is1,r1,p1,_⟩:=I.tuple hx
  obtain⟨is2,r2,p2,_⟩:=I.tuple hy
  have e1:=r1.length
  have e2:=r2.length
  have e3:is1.toArray.size=xs.length:=by simp[e1]
  have e4:is2.toArray.size=ys.length:=by simp[e2]
  refine SeqAt.RcNeAt.tuples (e:=e) p1 p2 (by omega) (λj h1 h2=>?_) _ _ _ _ ⟨.bl _,H,I,rfl,by rw[e3,e4];exact q⟩
  have h1':j<xs.length:=by simpa[e1]using h1
  have h2':j<ys.length:=by simpa[e2]using h2
  obtain⟨u,hu1,ru⟩:=r1.get (Ye h1')
  obtain⟨v,hv1,rv⟩:=r2.get (Ye h2')
  have eu:is1.toArray[j]=u:=by simpa using(Yk.mp hu1).2
  have ev:is2.toArray[j]=v:=by simpa using(Yk.mp hv1).2
  rw[eu,ev]
  exact Zk1 I (h j _ _ (Ye h1') (Ye h2')) X.A.in1 u v (by show X.A.units+1+2<cLine;omega) ru rv
end
noncomputable def EqQ (K:Frag) (H:Hp) (n:Nat) {α:Type} [DecidableEq α] (P:V->α->Prop):Prop:=∀x y a b,P x a->P y b->EqN K H n x y (decide (a=b))
theorem Zjg {K:Frag}{H:Hp}{n:Nat}:EqQ K H n IsI:=by
 rintro x y a b rfl rfl
 have:=EqN.flat (K:=K) (H:=H) (n:=n) (x:=.int a) (y:=.int b) rfl rfl
 have e:eqV (.int a) (.int b)=decide (a=b):=by simp[eqV,Bool.beq_eq_decide_eq]
 rw[<-e];exact this
theorem Zjh {K:Frag}{H:Hp}{n:Nat}{α:Type} [DecidableEq α] {P:V->α->Prop} (h:EqQ K H n P):EqQ K H (n+1) (IsL K H P):=by
 rintro x y as bs ⟨a,xs,rfl,hx,lx,px⟩ ⟨b,ys,rfl,hy,ly,py⟩
 by_cases hl:as.length=bs.length
 ·rw[<-all_eq as bs hl,<-lx]
  refine .lst _ hx hy (by omega) λj x y h1 h2=>?_
  have j1:=(Yk.mp h1).1
  have j2:=(Yk.mp h2).1
  have ha:as[j]?=some as[j]:=Ye (by omega)
  have hb:bs[j]?=some bs[j]:=Ye (by omega)
  have:=h x y _ _ (px j _ _ h1 ha) (py j _ _ h2 hb)
  rw[ha,hb]
  simpa using this
 ·have e:decide (as=bs)=false:=by simp;intro z;exact hl (congrArg List.length z)
  rw[e]
  exact .len hx hy (by omega)
section
variable {ky:Keyed->Int}
noncomputable def Srt (ky:Keyed->Int) (l:List Keyed):Prop:=l.Pairwise (λx y=>ky x<=ky y)
variable {a b out:List Keyed}{ia ib:Nat}
noncomputable def Gd (ky:Keyed->Int) (a b res:List Keyed):Prop:=res.Perm (a++b)/\Srt ky res
variable {prog:Program}{w:World}{A:Around}{E:Value->Shared->Prop}{s:Shared}{κ:SortKind}{P:Keyed->Prop}
end
section
variable {ky:Keyed->Int}
noncomputable def kp (ky:Keyed->Int) (a:Array Keyed) (i:Nat):Int:=ky (a.getD i (Value.none,Value.none))
theorem kp_at {a:Array Keyed}{i:Nat} (h:i<a.size):kp ky a i=ky a[i]:=by unfold kp;simp[Array.getD,h]
noncomputable def SoR (ky:Keyed->Int) (a:Array Keyed) (l r:Nat):Prop:=∀i j,l<=i->i<=j->j<r->kp ky a i<=kp ky a j
structure Chg (a a':Array Keyed) (l r:Nat):Prop where
 perm:a'.Perm a
 same:∀i,i<l\/r<=i->a'[i]?=a[i]?
variable {prog:Program}{w:World}{A:Around}{E:Value->Shared->Prop}{s:Shared}{κ:SortKind}{P:Keyed->Prop}
end
section
variable {ky:Keyed->Int}
variable {a a':Array Keyed}
theorem Zji (base:Nat):∀(m:List Keyed) (n:Nat) (a:Array Keyed),base+n+m.length<=a.size ->
  (List.foldl (λ(a:Array Keyed) (x:Keyed×Nat)=>a.setIfInBounds (base+x.2) x.1) a (m.zipIdx n)).toList=a.toList.take (base+n)++m++a.toList.drop (base+n+m.length)
 |[],n,a,h=>by simp
 |x::m,n,a,h=>by
  simp only[Yn]at h
  rw[List.zipIdx_cons,List.foldl_cons,Zji base m (n+1) _ (by simp;omega)]
  simp only[Array.toList_setIfInBounds,Yn]
  have e1:(a.toList.set (base+n) x).take (base+(n+1))=a.toList.take (base+n)++[x]:=by
   rw[<-Nat.add_assoc,Y7,List.take_set,List.getElem?_set]
   rw[List.set_eq_of_length_le (by simp;omega)]
   simp[show base+n<a.size by omega]
  have e2:(a.toList.set (base+n) x).drop (base+(n+1)+m.length)=a.toList.drop (base+n+(m.length+1)):=by
   rw[List.drop_set_of_lt (by omega)]
   congr 1;omega
  rw[e1,e2]
  simp
variable {prog:Program}{w:World}{A:Around}{E:Value->Shared->Prop}{s:Shared}{κ:SortKind}{P:Keyed->Prop}
theorem laid {base mid r:Nat}{res:Array Keyed} (h1:base<=mid) (h2:mid<=r) (h3:r<=a.size) (hg:Gd ky (a.extract base mid).toList (a.extract mid r).toList res.toList) :
  ∃a':Array Keyed,List.foldl (λ(a:Array Keyed) (x:Keyed×Nat)=>a.setIfInBounds (base+x.2) x.1) a res.toList.zipIdx=a'/\Chg a a' base r/\SoR ky a' base r/\∀j,base<=j->j<r->∃t,base<=t/\t<r/\kp ky a' j=kp ky a t:=by
 have hlen:res.toList.length=r-base:=by
  have:=hg.1.length_eq
  simp only[Yy,YR,Array.size_extract]at this⊢;omega
 have key:=Zji base res.toList 0 a (by omega)
 have hb:base+0+res.toList.length=r:=by omega
 rw[hb,Nat.add_zero]at key
 refine⟨_,rfl,⟨?_,?_⟩,?_,?_⟩
 ·rw[Array.perm_iff_toList_perm,key]
  have e:a.toList=a.toList.take base++((a.extract base mid).toList++(a.extract mid r).toList)++a.toList.drop r:=by
   simp only[Array.toList_extract,List.extract_eq_drop_take]
   have:(a.toList.drop base).take (mid-base)++(a.toList.drop mid).take (r-mid)=(a.toList.drop base).take (r-base):=by
    have e2:r-base=(mid-base)+(r-mid):=by omega
    rw[e2,List.take_add,List.drop_drop]
    congr 3;omega
   rw[this]
   have e3:a.toList.drop r=(a.toList.drop base).drop (r-base):=by rw[List.drop_drop];congr 1;omega
   rw[e3,YD,Y8,Y8]
  conv=>rhs;rw[e]
  exact List.Perm.append_right _ (List.Perm.append_left _ hg.1)
 ·intro i hi
  rw[<-Array.getElem?_toList,<-Array.getElem?_toList,key]
  have hl0:(a.toList.take base).length=base:=by simp;omega
  rcases hi with hi|hi
  ·rw[YD,YX (by omega),List.getElem?_take_of_lt hi]
  ·rw[YW (by simp;simp at hlen;omega),List.getElem?_drop]
   congr 1
   simp only[Yy,hl0,hlen];omega
 all_goals
  have atm:∀j,(hj0:base<=j)->(hj:j<r)->kp ky (List.foldl (λ(a:Array Keyed) (x:Keyed×Nat)=>a.setIfInBounds (base+x.2) x.1) a res.toList.zipIdx) j=ky (res.toList[j-base]'(by omega)):=by
   intro j j1 j2
   have hl0:(a.toList.take base).length=base:=by simp;omega
   have:(List.foldl (λ(a:Array Keyed) (x:Keyed×Nat)=>a.setIfInBounds (base+x.2) x.1) a res.toList.zipIdx)[j]?=some (res.toList[j-base]'(by omega)):=by
    rw[<-Array.getElem?_toList,key,YD,YW (by omega),YX (by omega),hl0,Ye (by omega)]
   unfold kp
   rw[Array.getD_eq_getD_getElem?,this];rfl
 ·intro i j hi hij hj
  rw[atm i hi (by omega),atm j (by omega) hj]
  by_cases e:i=j
  ·subst e;exact Int.le_refl _
  ·exact List.pairwise_iff_getElem.mp hg.2 _ _ _ _ (by omega)
 ·intro j j1 j2
  rw[atm j j1 j2]
  have hm:(res.toList[j-base]'(by omega))∈(a.extract base mid).toList++(a.extract mid r).toList:=(List.Perm.mem_iff hg.1).mp (YT _)
  rcases Yq.mp hm with hm|hm
  ·obtain⟨t,ht,e⟩:=List.mem_iff_getElem.mp hm
   simp only[YR,Array.size_extract]at ht
   simp only[Array.getElem_toList,Array.getElem_extract]at e
   exact⟨base+t,by omega,by omega,by rw[kp_at (by omega),e,Array.getElem_toList]⟩
  ·obtain⟨t,ht,e⟩:=List.mem_iff_getElem.mp hm
   simp only[YR,Array.size_extract]at ht
   simp only[Array.getElem_toList,Array.getElem_extract]at e
   exact⟨mid+t,by omega,by omega,by rw[kp_at (by omega),e,Array.getElem_toList]⟩
end
end L2
namespace L2
open PySem PySem.Spec PyProof.Rows
end L2
namespace L2
open PySem PySem.Spec PyProof.Rows PySem.W
noncomputable def ZaS (H:Hp) (acc:List V) (rs:List (List Int)):Prop:=∃as:List Addr,acc=as.map V.ref/\as.length=rs.length/\∀i (h1:i<as.length) (h2:i<rs.length),H as[i]=some (.tup (rs[i].map V.int))
theorem ZaS.nil {H:Hp}:ZaS H [] []:=⟨[],rfl,rfl,λi h=>absurd h (by simp)⟩
theorem ZaS.same {H H':Hp}{acc:List V}{rs:List (List Int)} (h:ZaS H acc rs) (s:Zf H H'):ZaS H' acc rs:=by
 obtain⟨as,e,l,k⟩:=h
 exact⟨as,e,l,λi h1 h2=>s _ _ (k i h1 h2)⟩
theorem ZaS.len {H:Hp}{acc:List V}{rs:List (List Int)} (h:ZaS H acc rs):acc.length=rs.length:=by
 obtain⟨as,e,l,k⟩:=h
 rw[e,Yf,l]
theorem ZaS.snoc {H:Hp}{acc:List V}{rs:List (List Int)}{u:Addr}{r:List Int} (h:ZaS H acc rs) (hu:H u=some (.tup (r.map V.int))):ZaS H (acc++[V.ref u]) (rs++[r]):=by
 obtain⟨as,e,l,k⟩:=h
 refine⟨as++[u],by rw[e];simp,by simp[l],λi h1 h2=>?_⟩
 by_cases c:i<as.length
 ·rw[Y9 c,Y9 (by omega)];exact k i c (by omega)
 ·have:i=as.length:=by simp at h1;omega
  subst this
  rw[List.getElem_concat_length,Ja (by omega)]
  simpa[l]using hu
  rfl
theorem ZaS.at {H:Hp}{acc:List V}{rs:List (List Int)}{l:Addr} (h:ZaS H acc rs) (hl:H l=none):ZC (upd H l (.lst acc)) l rs:=by
 obtain⟨as,e,ln,k⟩:=h
 refine⟨as,by rw[Zc,e],ln,λi h1 h2=>?_⟩
 rw[Zh (λz=>by have:=k i h1 h2;rw[z,hl]at this;cases this)]
 exact k i h1 h2
end L2
namespace L2
open PySem PySem.Spec PyProof.Rows PySem.W PySem.Calls
end L2
namespace L2
open PySem PySem.Spec PyProof.Rows PySem.W
section
variable {X:Cx}{a b:Expr}{rest:List Expr}{ta tb:TE}{pos:Pos}
noncomputable def tOrT (K:Frag) (ta tb:TE):TE:=fun σ H Q=>ta σ H λx H1=>∃k,TruV K x H1 k/\if k=true then Q x H1 else tb σ H1 Q
theorem pe_orT {K:Frag} (hK:X.K=K) (ha:PE X a ta) (hb:PE X (.BoolOp .Or (b::rest) pos) tb):PE X (.BoolOp .Or (a::b::rest) pos) (tOrT K ta tb):=by
 subst hK
 intro pins s σ H Q I h
 refine BoolOp_or (thn (ha pins s σ H _ I h) λv s1 ⟨x,H1,I1,r1,k,hk,q1⟩=>?_)
 refine thn (tru_ok pins s1 σ H1 x v (λc H'=>if c=true then Q x H' else tb σ H' Q) I1 r1 ⟨k,hk,q1⟩) λc s2 ⟨H2,I2,q2⟩=>?_
 cases c with
 |true=>exact⟨x,H2,I2,r1,q2⟩
 |false=>exact hb pins s2 σ H2 Q I2 q2
end
theorem le1 {n:Nat}{us:List Value} (e:us.length=n+1):∃a t,us=a::t/\t.length=n:=by
 cases us with
 |nil=>cases e
 |cons a t=>exact⟨a,t,rfl,Nat.succ.inj e⟩
theorem le0 {us:List Value} (e:us.length=0):us=[]:=List.length_eq_zero_iff.mp e
noncomputable def ZW (f:Nat->Int) (p:Nat):Nat:=((p:Int)-ZeA f p-1).toNat
noncomputable def Zbm (f:Nat->Int) (n p:Nat):Nat:=(ZeB f n p-p-1).toNat
section
variable {ns T:List Int}
theorem Zs (hT:Zk ns T) {p:Nat} (hp:p<ns.length):(ZW (nth ns) p:Int)=p-ZeA (nth ns) p-1/\(Zbm (nth ns) ns.length p:Int)=ZeB (nth ns) ns.length p-p-1/\ZW (nth ns) p<=p/\p+Zbm (nth ns) ns.length p<ns.length:=by
 unfold ZW Zbm
 obtain⟨h1,h2⟩:=Zan (hT.2 p hp)
 rcases h1 with h1|⟨q,h1⟩<;>rcases h2 with h2|⟨r,h2⟩
 ·rw[Zcq h1,Zbo h2];omega
 ·rw[Zcq h1,ZV h2];have:=h2.1;have:=h2.2.1;omega
 ·rw[ZU h1,Zbo h2];have:=h1.1;omega
 ·rw[ZU h1,ZV h2];have:=h1.1;have:=h2.1;have:=h2.2.1;omega
theorem Zd8 (hT:Zk ns T) {q e:Nat} (hq:q<ns.length) (h:nth T q=e) (hl:q<e):e<ns.length/\ZeA (nth ns) q=ZeA (nth ns) e/\ZeB (nth ns) ns.length q=e/\(∀s,q<s->s<e->nth ns q<=nth ns s)/\∀s:Nat,ZeA (nth ns) e<s->s<q->nth ns q<nth ns s:=by
 have hE:=hT.2 q hq
 rw[show T.getD q 0=e from h]at hE
 rcases hE with⟨_,_,z⟩|⟨x,h1,_,z⟩|⟨r,h1,h2,z⟩|⟨x,r,h1,h2,z⟩
 ·omega
 ·have:=h1.1;omega
 ·obtain rfl:e=r:=by omega
  have hN:ZbA (nth ns) e:=λr' r1=>by
   have:=h2.2.2.1
   by_cases z1:r'<q
   ·have:=h1 r' z1;omega
   ·by_cases z2:r'=q
    ·subst z2;omega
    ·have:=h2.2.2.2 r' (by omega) r1;omega
  exact⟨h2.2.1,by rw[Zcq h1,Zcq hN],ZV h2,h2.2.2.2,λs _ s2=>h1 s s2⟩
 ·by_cases c:nth ns x<=nth ns r
  ·rw[Yc c]at z
   obtain rfl:e=r:=by omega
   have hP:ZS (nth ns) e x:=⟨by have:=h1.1;omega,c,λr' r1 r2=>by
    have:=h2.2.2.1
    by_cases z1:r'<q
    ·have:=h1.2.2 r' r1 z1;omega
    ·by_cases z2:r'=q
     ·subst z2;omega
     ·have:=h2.2.2.2 r' (by omega) r2;omega⟩
   refine⟨h2.2.1,by rw[ZU h1,ZU hP],ZV h2,h2.2.2.2,λs s1 s2=>h1.2.2 s ?_ s2⟩
   rw[ZU hP]at s1;omega
  ·rw[Ya c]at z
   have:=h1.1;omega
theorem Zdn (hT:Zk ns T) {q e:Nat} (hq:q<ns.length) (h:nth T q=e) (hl:e<q):ZeA (nth ns) q=e/\ZeB (nth ns) ns.length q=ZeB (nth ns) ns.length e/\(∀s,e<s->s<q->nth ns q<nth ns s)/\∀s:Nat,q<s->s<ZeB (nth ns) ns.length e->nth ns q<=nth ns s:=by
 have hE:=hT.2 q hq
 rw[show T.getD q 0=e from h]at hE
 rcases hE with⟨_,_,z⟩|⟨x,h1,h2,z⟩|⟨r,h1,h2,z⟩|⟨x,r,h1,h2,z⟩
 ·omega
 ·obtain rfl:e=x:=by omega
  have hN:Za2 (nth ns) ns.length e:=λr r1 r2=>by
   have:=h1.2.1
   by_cases z1:r<q
   ·have:=h1.2.2 r r1 z1;omega
   ·by_cases z2:r=q
    ·subst z2;omega
    ·have:=h2 r (by omega) r2;omega
  exact⟨ZU h1,by rw[Zbo h2,Zbo hN],h1.2.2,λs s1 s2=>h2 s s1 (by rw[Zbo hN]at s2;omega)⟩
 ·have:=h2.1;omega
 ·by_cases c:nth ns x<=nth ns r
  ·rw[Yc c]at z
   have:=h2.1;omega
  ·rw[Ya c]at z
   obtain rfl:e=x:=by omega
   have hP:ZO (nth ns) ns.length e r:=⟨by have:=h2.1;omega,h2.2.1,by omega,λs s1 s2=>by
    have:=h1.2.1
    by_cases z1:s<q
    ·have:=h1.2.2 s s1 z1;omega
    ·by_cases z2:s=q
     ·subst z2;omega
     ·have:=h2.2.2.2 s (by omega) s2;omega⟩
   exact⟨ZU h1,by rw[ZV h2,ZV hP],h1.2.2,λs s1 s2=>h2.2.2.2 s s1 (by rw[ZV hP]at s2;omega)⟩
theorem Zfy (hT:Zk ns T) {q p e:Nat} (hq:q<ns.length) (hp:p<ns.length) (h:nth T q=e) (k:nth T p=e) (h1:q<e) (k1:p<e):q=p:=by
 obtain⟨he,a1,a2,a3,a4⟩:=Zd8 hT hq h h1
 obtain⟨_,b1,b2,b3,b4⟩:=Zd8 hT hp k k1
 have c1:=(Zs hT hq)
 have c2:=(Zs hT hp)
 rcases Nat.lt_trichotomy q p with z|z|z
 ·have x:=a3 p z k1
  have y:=b4 q (by rw[<-a1];omega) z
  omega
 ·exact z
 ·have x:=b3 q z h1
  have y:=a4 p (by rw[<-b1];omega) z
  omega
theorem ZeE (hT:Zk ns T) {q p e:Nat} (hq:q<ns.length) (hp:p<ns.length) (h:nth T q=e) (k:nth T p=e) (h1:e<q) (k1:e<p):q=p:=by
 obtain⟨a1,a2,a3,a4⟩:=Zdn hT hq h h1
 obtain⟨b1,b2,b3,b4⟩:=Zdn hT hp k k1
 have c1:=(Zs hT hq)
 have c2:=(Zs hT hp)
 rcases Nat.lt_trichotomy q p with z|z|z
 ·have x:=a4 p z (by rw[<-b2];omega)
  have y:=b3 q h1 z
  omega
 ·exact z
 ·have x:=b4 q z (by rw[<-a2];omega)
  have y:=a3 p k1 z
  omega
theorem Zk3 (hT:Zk ns T) {p:Nat} (hp:p<ns.length) (h:0<ZW (nth ns) p):∃q,q<p/\nth T q=p:=by
 obtain⟨c1,_,c3,_⟩:=Zs hT hp
 obtain⟨h1,_⟩:=Zan (hT.2 p hp)
 generalize hs:ZW (nth ns) p=s at *
 have hL:=Zi7 (nth ns) (p-s) (s-1)
 generalize ZjG (nth ns) (p-s) (s-1)=q at hL
 obtain⟨l1,l2,l3,l4⟩:=hL
 have hqp:q<p:=by omega
 have big:∀r,p-s<=r->r<p->nth ns p<nth ns r:=λr r1 r2=>by
  rcases h1 with h1|⟨x,h1⟩
  ·exact h1 r r2
  ·rw[ZU h1]at c1;exact h1.2.2 r (by omega) r2
 have hN:ZO (nth ns) ns.length q p:=⟨hqp,hp,big q l1 hqp,λr r1 r2=>l4 r r1 (by omega)⟩
 refine⟨q,hqp,?_⟩
 refine Zv.unique (hT.2 q (by omega)) ?_
 rcases h1 with h1|⟨x,h1⟩
 ·rw[Zcq h1]at c1
  exact .inr (.inr (.inl ⟨p,λr r1=>l3 r (by omega) r1,hN,rfl⟩))
 ·have hx:=c1
  rw[ZU h1]at hx
  refine .inr (.inr (.inr ⟨x,p,⟨by omega,?_,λr r1 r2=>l3 r (by omega) r2⟩,hN,by rw[Yc h1.2.1]⟩))
  have:=h1.2.1;have:=big q l1 hqp;omega
theorem ZjS (hT:Zk ns T) {p:Nat} (hp:p<ns.length) (h:0<Zbm (nth ns) ns.length p):∃q,p<q/\q<ns.length/\nth T q=p:=by
 obtain⟨_,c1,_,c3⟩:=Zs hT hp
 obtain⟨_,h1⟩:=Zan (hT.2 p hp)
 generalize hs:Zbm (nth ns) ns.length p=s at *
 have hL:=Zi7 (nth ns) (p+1) (s-1)
 generalize ZjG (nth ns) (p+1) (s-1)=q at hL
 obtain⟨l1,l2,l3,l4⟩:=hL
 have hqp:p<q:=by omega
 have big:∀r,p<r->r<=p+s->nth ns p<=nth ns r:=λr r1 r2=>by
  rcases h1 with h1|⟨x,h1⟩
  ·exact h1 r r1 (by omega)
  ·rw[ZV h1]at c1;exact h1.2.2.2 r r1 (by omega)
 have hN:ZS (nth ns) q p:=⟨hqp,big q hqp (by omega),λr r1 r2=>l3 r (by omega) r2⟩
 refine⟨q,hqp,by omega,?_⟩
 refine Zv.unique (hT.2 q (by omega)) ?_
 rcases h1 with h1|⟨x,h1⟩
 ·rw[Zbo h1]at c1
  exact .inr (.inl ⟨p,hN,λr r1 r2=>l4 r r1 (by omega),rfl⟩)
 ·have hx:=c1
  rw[ZV h1]at hx
  have g:=h1.2.2.1
  refine .inr (.inr (.inr ⟨p,x,hN,⟨by omega,h1.2.1,?_,λr r1 r2=>l4 r r1 (by omega)⟩,by rw[Ya (by omega)]⟩))
  have:=big q hqp (by omega);omega
end
end L2
namespace L2
open PySem PySem.Spec PyProof.Rows PySem.W PyProof
theorem Zf3 (l:Addr) (items:Array Value) (n:Nat) (dd:Option Addr) (sl:Array (Option Value)) (x:Value) (e:Value->Bool) (j:Nat) (hj:j<items.size)
  (hit:e items[j]=true) (hno:∀m (hm:m<items.size),m<j->e items[m]=false) :
  Meets (Builtin.«tuple.index» ⟨[.ref l,x],[]⟩)
   (λA R s=>s.heap.get? l=some {cls:=.type "tuple",dict:=dd,data:=.seq items n,slots:=sl}/\(∀y,y∈items->SeqAt.EqAt A.in1 s y x (e y))/\R (.ok (.ret (.int j s.toks))) {s with toks:=s.toks+1}) :=
 .of_wp λprog w A R s h=>by
  obtain⟨hp,g,d,tk,os⟩:=s;obtain⟨hl,he,h⟩:=h
  unfold Builtin.«tuple.index»
  simp only[Std.Legacy.Range.forIn_eq_forIn_range',Std.Legacy.Range.size,Nat.sub_zero,Nat.add_sub_cancel,Nat.div_one]
  wp_walk using wpAny_loadPart' hl,wpAny_forIn_list _ (λrest b s'=>b.1=none/\s'=⟨hp,g,d,tk,os⟩/\∃i,rest=List.range' i (items.size-i)/\i<=j) _
  case turn =>
   rintro y rest b s' ⟨hb,rfl,i,hr,hi⟩
   have hlt:i<items.size:=by omega
   obtain⟨rfl,hrest⟩:y=i/\rest=List.range' (i+1) (items.size-(i+1)):=by
    have e:items.size-i=(items.size-(i+1))+1:=by omega
    rw[e,List.range'_succ]at hr
    injection hr with h1 h2
    exact⟨h1,h2⟩
   rw[Array.getElem?_eq_getElem hlt]
   refine Yb (he items[y] (Array.getElem_mem hlt) prog w _ _ ?_)
   by_cases c:y=j
   ·subst c
    rw[hit]
    wp_walk
    exact⟨_,rfl,h⟩
   ·rw[hno y hlt (by omega)]
    wp_walk
    exact⟨rfl,rfl,y+1,hrest,by omega⟩
  case fin =>
   rintro⟨b1,b2⟩ s' ⟨hb,rfl,i,hr,hi⟩
   have e:items.size-i=(items.size-(i+1))+1:=by omega
   rw[e,List.range'_succ]at hr
   cases hr
  case h =>
   exact⟨rfl,rfl,0,by simp,Yu _⟩
section
variable {X:Cx}
noncomputable def rIndexT (K:Frag):V->List V->Hp->VK->Prop:=λx vs H Q=>∃(l:Addr) (ns:List Int) (k:Int),x=.ref l/\vs=[.int k]/\SqT K H l (ns.map V.int)/\k∈ns/\Q (.int (ns.idxOf k:Nat)) H
theorem ZjT {K:Frag} (hK:X.K=K):MtM X "tuple.index" (rIndexT K):=by
 subst hK
 intro pins s σ H x vs v us Q I rx rv h
 obtain⟨l,ns,k,rfl,rfl,hH,hk,q⟩:=h
 cases rx
 obtain⟨u,rfl,ru⟩:=rv.one
 obtain⟨t,rfl⟩:=ru
 obtain⟨its,r,pl⟩:=I.tuple hH
 have hi:IntsAre its ns:=intsAre_of r
 have hlen:=r.length
 rw[Yf]at hlen
 obtain⟨⟨cls,dd,data,sl⟩,ho,hc,n,hd⟩:=pl.1
 simp only at hc hd
 subst hc hd
 have hj:ns.idxOf k<ns.length:=List.idxOf_lt_length_iff.mpr hk
 refine call_meets F.slot_tuple_index ⟨_,ho,rfl⟩ F.entry_tuple_index (F.args_tuple_index_2 _ _)
  (Zf3 l its.toArray n dd sl (.int k t) (isInt k) (ns.idxOf k) (by rw[Yj];omega) ?_ ?_) ⟨ho,λy hy=>(eq_isInt k t hi y (by simpa using hy)).at _ _,⟨.int _,H,I.tok _,⟨_,rfl⟩,q⟩⟩
 ·show isInt k its[ns.idxOf k]=true
  rw[isInt_at k hi _ (by omega) hj]
  simpa using List.getElem_idxOf hj
 ·intro j hjs hlt
  show isInt k its[j]=false
  rw[isInt_at k hi j (by simpa using hjs) (by omega)]
  exact ne_of_lt_idxOf hlt _
end
noncomputable def ZeF (H:Hp) (t:Addr) (ys:List V):Prop:=∃ob:Obj,ob.dict=none/\H t=some (.frz ob (.tup ys))
theorem ZeF.same {H H':Hp}{t:Addr}{ys:List V} (h:ZeF H t ys) (s:Zf H H'):ZeF H' t ys:=let ⟨ob,d,e⟩:=h;⟨ob,d,s _ _ e⟩
theorem ZeF.sq {K:Frag}{H:Hp}{t:Addr}{ys:List V} (h:ZeF H t ys):SqT K H t ys:=let ⟨ob,_,e⟩:=h;.inl (.inr ⟨ob,e⟩)
section
variable {X:Cx}
noncomputable def rTofF (K:Frag):List V->Hp->VK->Prop:=λxs H Q=>∃p ys,xs=[.ref p]/\SqL K H p ys/\∀l H',H l=none->Zf H H'->ZeF H' l ys->Q (.ref l) H'
theorem ZjU {K:Frag} (hK:X.K=K):Zbb X (.type "tuple") (rTofF K):=by
 subst hK
 intro pins s σ H xs us Q I r h
 obtain⟨p,ys,rfl,hq,q⟩:=h
 obtain⟨u,rfl,rx⟩:=vals1 r
 cases rx
 obtain⟨its,r',pl,hz⟩:=I.list hq
 have hlen:=r'.length
 refine call_tuple_list pl.isList (λh' kp=>?_) (by simp only[Yj]<;>omega)
 have I1:Inv X pins σ H {s with heap:=h'}:=I.kept (t':=s.toks) kp
 have hn:=I1.hok.fresh (Yd h'.objs.size)
 have I2:Inv X pins σ (upd H h'.objs.size (.frz {cls:=.type "tuple",data:=.seq its.toArray} (.tup ys))) {s with heap:=h'.push {cls:=.type "tuple",data:=.seq its.toArray}} :=
  I1.laid (t':=s.toks) (λb o e=>Ym _ e) (Yd _) (show ZJ X.prog X.w _ _ _ (.frz _ (.tup ys))from⟨Yz _ rfl,hz,its,r',IsTup.new _ _⟩)
 exact⟨.ref h'.objs.size,_,I2,rfl,q _ _ hn ((Zf.refl H).upd hn) ⟨_,rfl,Zc⟩⟩
noncomputable def tBMH (r:V->List V->Hp->VK->Prop) (to:TE) (t:TA):TE:=fun σ H Q=>to σ H λx H1=>(∃p xs,x=.ref p/\ZeF H1 p xs)/\t σ H1 λxs H2=>r x xs H2 Q
variable {o e:Expr}{es:List Expr}{to:TE}{t:TA}{name:Str}{apos cpos:Pos}{id:String}{r:V->List V->Hp->VK->Prop}
theorem pe_bmH (slot:Slot "tuple" name id) (hty:typeOf (.builtin id)=pure (.type "method_descriptor")) (hm:MtM X id r) (ho:PE X o to) (ha:PA X (e::es) t)
  (hbase:attributeBase o name X.env (eval o X.env)=eval o X.env:=by rfl)
  (hfew:((backTo cpos (starEach (e::es) X.env)).all (λx=>!x.1)&&(backToKw cpos (keywordEach [] X.env)).all (λx=>x.1.isSome)
   && decide ((e::es).length+([]:List Keyword).length+(if ([]:List Keyword).isEmpty then 0 else 1)<30))=true:=by rfl)
  (hline:(apos.endLine==cpos.line)=true:=by rfl) (hs:starEach (e::es) X.env=(false,eval e X.env)::starEach es X.env:=by rfl) (hplain:(backTo cpos (starEach es X.env)).any (·.1)=false:=by rfl) :
  PE X (.Call (.Attribute o name apos) (e::es) [] cpos) (tBMH r to t):=by
 intro pins s σ H Q I h
 refine wpAny_Call_method_late hbase hfew hline rfl (thn (ho pins s σ H _ I h) λv s1 ⟨x,H1,I1,r1,⟨p,xs,ex,ob,hd,hp⟩,q1⟩=>?_)
 subst ex
 cases r1
 obtain⟨e1,_,its,_,ob2,e2,e3,_⟩:=(show ZJ X.prog X.w H1 s1.heap p (.frz ob (.tup xs))from I1.hok p _ hp)
 rw[e1]at e2
 cases e2
 refine⟨"tuple",id,PySem.F.plainAttrs_tuple,slot,hty,⟨ob,e1,e3⟩,(λa z=>by cases z;exact⟨ob,e1,hd⟩),?_⟩
 have hA:=ha cpos pins s1 σ H1 _ I1 q1
 rw[hs]at hA⊢
 refine Calls.callWith_builtin (by show(false||(backTo cpos (starEach es X.env)).any (·.1))=false;rw[hplain]<;>rfl) (Calls.evalArgs_plain ?_)
 exact thn hA λus s2 ⟨vs,H2,I2,r2,q2⟩=>hm pins s2 σ H2 (.ref p) vs (.ref p) us Q I2 rfl r2 q2
end
end L2
namespace L2
open PySem PySem.Spec PyProof.Rows PySem.W
end L2
namespace HT
open PySem PyProof.Rows
section
open PySem.SeqAt
open PySem.AutoSeq1 (wpAny_loadPart')
open PySem.MeetsSeq PySem.MeetsSeq2 PySem.MeetsSeq3
end
end HT
namespace L2
open PySem PySem.Spec PyProof.Rows PySem.W
end L2
namespace K54
open PySem PySem.Spec PyProof.Rows L2
open PySem.W (nsIn mg_of fnOf keepIn codeIn mg_none_of)
local macro_rules | `(tactic| walk_at "rd") => `(tactic| simp only [tIfS, tNot, tTest, rI0, rI, rU, tVar, tC, tB, tIf, tAndV, tNotV, tCall, tCons, tNil, tAsg, tSeq, tRet, tNext, tOp, tUn, tAnd, tOr, tDrop, gName, gSub, tAug, tCB, tSl, tRaise, tLst, tTup, L2.start, tYes, gTup, gCons, gNil, iniC, Option.join_some, Option.join_none, rEq, rNe, Zd1, Zi0, Zi1, Zi2, Zi3, Zi4, tBM, Bool.true_eq_false, YB, List.map_nil, List.cons_append, List.nil_append, Yn, List.length_nil, List.replicate, List.append_nil, List.set_cons_zero, List.set_cons_succ, List.getElem?_cons_zero, List.getElem?_cons_succ, Option.some.injEq, V.int.injEq, V.bl.injEq, V.ref.injEq, List.cons.injEq, and_true, true_and, exists_eq_left, exists_eq_left', exists_and_left, exists_eq, decide_eq_true_eq, Bool.not_eq_true', decide_eq_false_iff_not, cxK, and_assoc, Bool.false_eq_true, ↓reduceIte, ZiZ, Zgt, ZhC, iRng1, iRng2, iList, iTup, rIxL, rIxT, rSetL, rCat, rIsi, rSum, tDelT, rIntB, tPar, rInsert, rIndex, rLen, rLof, rTof, rTofF, tBMH, rIndexT, rEqD, iEnumT, rIxQ, rSlL, tPart, tNoPart, tSl, ipI, rAppend, rRep, Zi5, ZkI, rExtend, V.str.injEq, tFldC, sFldC, tMeth, tMake, tDGet, sDPut, tDNotIn, rCatU, tDNewT, gLst, rEqN, tOrT, rIndexT, rTofF, tBMH])
noncomputable def top (i:Nat):Stmt:=PySem.Challenge.pw_dipkin_k54_tuples_counted.main.body.getD i (.Pass ⟨0,0,0,0⟩)
noncomputable abbrev ZX:Stmt:=top 5
noncomputable abbrev s_settle:Stmt:=top 7
noncomputable abbrev s_tree_of:Stmt:=top 8
noncomputable abbrev s_young_of:Stmt:=top 9
noncomputable abbrev Zao:Stmt:=top 13
noncomputable abbrev ZD:Stmt:=inClass (top 15) 0
noncomputable abbrev ZY:Stmt:=inClass (top 15) 1
noncomputable abbrev ZZ:Stmt:=inClass (top 15) 2
noncomputable abbrev ZH:Stmt:=inClass (top 15) 3
noncomputable abbrev Zap:Stmt:=top 16
noncomputable abbrev ZaH:Stmt:=top 18
noncomputable abbrev ZaI:Stmt:=top 19
noncomputable abbrev Zaq:Stmt:=top 20
noncomputable abbrev Za4:Stmt:=top 21
noncomputable abbrev Zar:Stmt:=top 22
noncomputable abbrev s__law_tree:Stmt:=top 23
noncomputable abbrev Zaa:Stmt:=top 24
noncomputable abbrev ZaJ:Stmt:=top 25
noncomputable abbrev Zab:Stmt:=top 26
noncomputable abbrev Z0:Stmt:=top 27
noncomputable abbrev Zac:Stmt:=top 28
noncomputable abbrev Zas:Stmt:=top 29
noncomputable abbrev ZE:Stmt:=top 30
noncomputable abbrev s_law:Stmt:=top 31
structure Txt (K:PySem.W.Frag) (mg:Str->Option Value):Prop where
 b_bool:mg "bool"=none
 b_enumerate:mg "enumerate"=none
 b_int:mg "int"=none
 b_isinstance:mg "isinstance"=none
 b_len:mg "len"=none
 b_list:mg "list"=none
 b_max:mg "max"=none
 b_min:mg "min"=none
 b_range:mg "range"=none
 b_sum:mg "sum"=none
 b_tuple:mg "tuple"=none
 c_DipError:mg "DipError"=some (.ref (clsAt mg "DipError"))
 x_DipError:PySem.W.excIn K (clsAt mg "DipError") bmV newV=true
 c_Empty:mg "Empty"=some (.ref (clsAt mg "Empty"))
 x_Empty:PySem.W.excIn K (clsAt mg "Empty") bmV newV=true
 c_TooMany:mg "TooMany"=some (.ref (clsAt mg "TooMany"))
 x_TooMany:PySem.W.excIn K (clsAt mg "TooMany") bmV newV=true
 c_Holding:mg "Holding"=some (.ref (clsAt mg "Holding"))
 cl_Holding:Cls K (clsAt mg "Holding")
 n_Holding_text:NoAttr K (clsAt mg "Holding") "text"
 n_Holding_tree:NoAttr K (clsAt mg "Holding") "tree"
 n_Holding_young:NoAttr K (clsAt mg "Holding") "young"
 n_Holding_known:NoAttr K (clsAt mg "Holding") "known"
 m_MOST_HELD:mg "MOST_HELD"=some (.int 6 (tokAt mg "MOST_HELD"))
 m_MOST_HOLDING:mg "MOST_HOLDING"=some (.int 16 (tokAt mg "MOST_HOLDING"))
noncomputable abbrev SpT:=PySem.W.Frag->(Str->Option Value)->Sp
noncomputable def spLaw (K:PySem.W.Frag):Sp:=λvs H Q E=>∃(a:Addr) (ns:List Int),vs=[.ref a]/\SqL K H a (ns.map V.int)/\ns.length<=63/\∀H',Q (.bl true) H'
noncomputable def ZbZ:SpT:=λK mg vs H Q E=>∃i:Int,vs=[.int i]/\Q (.bl true) H
noncomputable def Zaz:SpT:=λK mg vs H Q E=>∃(r:Addr) (ns:List Int) (k:Int),vs=[.ref r,.int k]/\(SqL K H r (ns.map V.int)\/SqT K H r (ns.map V.int))/\ns.length<=1000/\0<=k/\k<=1000/\(k<=ns.length->Q .non H)/\((ns.length:Int)<k->E (.ref (clsAt mg "Empty")) none H)
noncomputable def sp_settle:SpT:=λK mg vs H Q E=>∃(el sp:Addr) (es:List Int) (A B:List Nat) (i:Nat),vs=[.ref el,.ref sp,.int i,.int A.length]/\H el=some (.lst (es.map V.int))/\H sp=some (.lst (Zz (A++B)))/\el≠sp/\i<es.length/\(∀q∈A++B,q<es.length)/\(A++B).length<=1000 /\
 ∀H',(∀b o,b≠el->b≠sp->H b=some o->H' b=some o)->H' el=some (.lst ((Ze4 es A B i).map V.int))->H' sp=some (.lst (Zz (A++[i])))->Q .non H'
noncomputable def optN:Option Nat->V
 |none=>.non
 |some i=>.int (i:Int)
noncomputable def AheadIs (T:List Int) (v:Nat):Option Nat->Prop
 |none=>∀c,c<v->c<T.length->nth T c≠v
 |some c=>c<v/\c<T.length/\nth T c=v
noncomputable def BehindIs (T:List Int) (v:Nat):Option Nat->Prop
 |none=>∀c,v<c->c<T.length->nth T c≠v
 |some c=>v<c/\c<T.length/\nth T c=v
noncomputable def YoungAt (H:Hp) (y:Addr) (T:List Int):Prop:=∃as:List Addr,H y=some (.lst (as.map V.ref))/\as.length=T.length/\∀(v:Nat) (a:Addr),as[v]?=some a->∃ah bh,AheadIs T v ah/\BehindIs T v bh/\H a=some (.lst [optN ah,optN bh])
theorem way_step {ns T:List Int} (hT:Zk ns T) {p:Nat} (hp:p<T.length):(nth T p=-1/\way T p=[])\/∃q:Nat,nth T p=q/\q<T.length/\way T p=q::way T q:=by
 have e:=hT.1
 rcases ZaG hT (p:=p) (by omega)with z|⟨q,z,hq,_,_⟩
 ·exact .inl ⟨z,ZmE z⟩
 ·exact .inr ⟨q,z,by omega,ZL hT (by omega) z⟩
theorem way_dp {ns T:List Int} (hT:Zk ns T) {a:Nat}:∀(k b:Nat),b<T.length->(way T b).length<=k->a∈way T b->(way T a).length<(way T b).length:=by
 intro k
 induction k with
 |zero =>
  intro b hb hk h
  have:way T b=[]:=List.length_eq_zero_iff.mp (by omega)
  rw[this]at h;cases h
 |succ k ih =>
  intro b hb hk h
  rcases way_step hT hb with⟨_,e⟩|⟨q,_,hq,e⟩
  ·rw[e]at h;cases h
  ·rw[e,Yn]at hk⊢
   rw[e]at h
   rcases Yl.mp h with rfl|h
   ·omega
   ·have:=ih q hq (by omega) h
    omega
theorem nd_few {L:List Nat}{n:Nat} (nd:L.Nodup) (h:∀q∈L,q<n):L.length<=n:=by
 have pm:L.Perm ((List.range n).filter λx=>decide (x∈L)):=(List.perm_ext_iff_of_nodup nd (List.nodup_range.filter _)).mpr λx=>by
  rw[YO]
  exact⟨λz=>⟨YC.mpr (h x z),YL z⟩,λz=>of_decide_eq_true z.2⟩
 have l2:=Y2 (λx=>decide (x∈L)) (List.range n)
 rw[Y5,<-pm.length_eq]at l2
 exact l2
theorem way_nd {nsT T:List Int} (hT:Zk nsT T):∀k b,b<T.length->(way T b).length<=k->(way T b).Nodup/\b∉way T b:=by
 have e:=hT.1
 intro k
 induction k with
 |zero =>
  intro b hb hk
  have:way T b=[]:=List.length_eq_zero_iff.mp (by omega)
  rw[this];simp
 |succ k ih =>
  intro b hb hk
  rcases way_step hT hb with⟨_,z⟩|⟨q,_,hq,z⟩
  ·rw[z];simp
  ·rw[z,Yn]at hk
   obtain⟨h1,h2⟩:=ih q hq (by omega)
   have nb:b∉q::way T q:=λy=>by
    have:=way_dp hT _ b hb (Yd _) (z▸y)
    omega
   rw[z]
   exact⟨List.nodup_cons.mpr ⟨h2,h1⟩,nb⟩
theorem nthV {ns:List Int}{i:Nat} (h:i<ns.length):(ns.map V.int)[i]?=some (V.int (nth ns i)):=by
 unfold nth
 rw[YK,Ye h,Yr,Ye h];rfl
theorem nth_mem {ns:List Int}{i:Nat} (h:i<ns.length):nth ns i∈ns:=by
 unfold nth
 rw[Yr,Ye h];exact YT h
theorem ahead_one {ns T:List Int} (hT:Zk ns T) {v:Nat}{a b:Option Nat} (h1:AheadIs T v a) (h2:AheadIs T v b):a=b:=by
 have e:=hT.1
 cases a with
 |none =>
  cases b with
  |none=>rfl
  |some q=>exact absurd h2.2.2 (h1 q h2.1 h2.2.1)
 |some p =>
  cases b with
  |none=>exact absurd h1.2.2 (h2 p h1.1 h1.2.1)
  |some q=>rw[Zfy hT (by have:=h1.2.1;omega) (by have:=h2.2.1;omega) h1.2.2 h2.2.2 h1.1 h2.1]
theorem behind_one {ns T:List Int} (hT:Zk ns T) {v:Nat}{a b:Option Nat} (h1:BehindIs T v a) (h2:BehindIs T v b):a=b:=by
 have e:=hT.1
 cases a with
 |none =>
  cases b with
  |none=>rfl
  |some q=>exact absurd h2.2.2 (h1 q h2.1 h2.2.1)
 |some p =>
  cases b with
  |none=>exact absurd h1.2.2 (h2 p h1.1 h1.2.1)
  |some q=>rw[ZeE hT (by have:=h1.2.1;omega) (by have:=h2.2.1;omega) h1.2.2 h2.2.2 h1.1 h2.1]
theorem mulBig {a b:Nat} (ha:a<2 ^ 100000) (hb:b<2 ^ 100000):IntMulOk (a:Int) (b:Int) :=
 Zfj (Yh ((intBits_le_iff (m:=100000)).mpr ha) (by decide)) (Yh ((intBits_le_iff (m:=100000)).mpr hb) (by decide))
noncomputable def kidA (T:List Int) (p:Nat):Option Nat:=(List.range T.length).find? λc=>decide (c<p)&&(nth T c==(p:Int))
noncomputable def kidB (T:List Int) (p:Nat):Option Nat:=(List.range T.length).find? λc=>decide (p<c)&&(nth T c==(p:Int))
theorem kidA_is (T:List Int) (p:Nat):AheadIs T p (kidA T p):=by
 unfold kidA
 cases e:(List.range T.length).find? λc=>decide (c<p)&&(nth T c==(p:Int))with
 |none =>
  intro c c1 c2 z
  have:=List.find?_eq_none.mp e c (YC.mpr c2)
  simp[c1,z]at this
 |some c =>
  have h1:=List.find?_some e
  have h2:=YC.mp (List.mem_of_find?_eq_some e)
  simp at h1
  exact⟨h1.1,h2,h1.2⟩
theorem kidB_is (T:List Int) (p:Nat):BehindIs T p (kidB T p):=by
 unfold kidB
 cases e:(List.range T.length).find? λc=>decide (p<c)&&(nth T c==(p:Int))with
 |none =>
  intro c c1 c2 z
  have:=List.find?_eq_none.mp e c (YC.mpr c2)
  simp[c1,z]at this
 |some c =>
  have h1:=List.find?_some e
  have h2:=YC.mp (List.mem_of_find?_eq_some e)
  simp at h1
  exact⟨h1.1,h2,h1.2⟩
theorem kidA_none {T:List Int}{p:Nat} (h:kidA T p=none):∀c,c<p->c<T.length->nth T c≠p:=by
 have:=kidA_is T p;rw[h]at this;exact this
theorem kidB_none {T:List Int}{p:Nat} (h:kidB T p=none):∀c,p<c->c<T.length->nth T c≠p:=by
 have:=kidB_is T p;rw[h]at this;exact this
theorem kidA_some {T:List Int}{p a:Nat} (h:kidA T p=some a):a<p/\a<T.length/\nth T a=p:=by
 have:=kidA_is T p;rw[h]at this;exact this
theorem kidB_some {T:List Int}{p a:Nat} (h:kidB T p=some a):p<a/\a<T.length/\nth T a=p:=by
 have:=kidB_is T p;rw[h]at this;exact this
theorem no_left {ns T:List Int} (hT:Zk ns T) {p:Nat} (hp:p<T.length) (h:kidA T p=none):ZeA (nth ns) p=(p:Int)-1:=by
 have eT:=hT.1
 obtain⟨c1,_,c3,_⟩:=Zs hT (p:=p) (by omega)
 have:¬ 0<ZW (nth ns) p:=λz=>by
  obtain⟨q,q1,q2⟩:=Zk3 hT (by omega) z
  exact kidA_none h q q1 (by omega) q2
 omega
theorem no_right {ns T:List Int} (hT:Zk ns T) {p:Nat} (hp:p<T.length) (h:kidB T p=none):ZeB (nth ns) ns.length p=(p:Int)+1:=by
 have eT:=hT.1
 obtain⟨_,c1,_,c3⟩:=Zs hT (p:=p) (by omega)
 have:¬ 0<Zbm (nth ns) ns.length p:=λz=>by
  obtain⟨q,q1,q2,q3⟩:=ZjS hT (by omega) z
  exact kidB_none h q q1 (by omega) q3
 omega
theorem top_fen {ns T:List Int} (hT:Zk ns T) {p:Nat} (hp:p<T.length) (h:nth T p=-1):ZeA (nth ns) p=-1/\ZeB (nth ns) ns.length p=ns.length:=by
 have eT:=hT.1
 have hE:=hT.2 p (by omega)
 rw[show T.getD p 0=-1 from h]at hE
 rcases hE with⟨z1,z2,_⟩|⟨x,_,_,z⟩|⟨r,_,_,z⟩|⟨x,r,_,_,z⟩
 ·exact⟨Zcq z1,Zbo z2⟩
 ·omega
 ·omega
 ·split at z<;>omega
noncomputable def fnR (r:List Nat):Nat->Nat:=λi=>r.getD i 0
theorem way_lt {ns T:List Int} (hT:Zk ns T) {p:Nat} (hp:p<T.length):(way T p).length<T.length:=by
 have e:=hT.1
 have h3:=way_nd hT _ p hp (Yd _)
 have nd:(p::way T p).Nodup:=List.nodup_cons.mpr ⟨h3.2,h3.1⟩
 have:=nd_few (n:=T.length) nd (λq hq=>by
  rcases Yl.mp hq with z|z
  ·rw[z];omega
  ·have:=((Z9 hT (by omega)).mp z).1;omega)
 rw[Yn]at this
 omega
theorem top_in {ns T:List Int} (hT:Zk ns T):∀k p,p<T.length->(way T p).length<=k->(-1:Int)∈T:=by
 intro k
 induction k with
 |zero =>
  intro p hp hk
  rcases way_step hT hp with⟨z,_⟩|⟨q,_,_,z⟩
  ·rw[<-z];exact nth_mem hp
  ·rw[z]at hk;simp at hk
 |succ k ih =>
  intro p hp hk
  rcases way_step hT hp with⟨z,_⟩|⟨q,_,hq,z⟩
  ·rw[<-z];exact nth_mem hp
  ·exact ih q hq (by rw[z,Yn]at hk;omega)
noncomputable def ZbD (T:List Int) (tx:Nat->Int) (v a c i:Nat):Bool:=if nth T v=-1 then true else if nth T v<(v:Int)then decide (tx (a-1)<=tx i)else decide (tx c<tx i)
noncomputable def Za5 (T:List Int) (tx:Nat->Int):Nat->Option Nat->Nat->Nat->List (List Nat)
 |0,_,_,_=>[]
 |_+1,none,_,_=>[[]]
 |h+1,some v,a,c=>((List.range' a (c-a)).filter (ZbD T tx v a c)).flatMap λi=>(Za5 T tx h (kidA T v) a i).flatMap λL=>(Za5 T tx h (kidB T v) (i+1) c).map λR=>L++[i]++R
theorem Zk4 {α β γ:Type} (A:List α) (B:List β) (f:α->β->γ):(A.flatMap λx=>B.map λy=>f x y).length=A.length*B.length:=by
 induction A with
 |nil=>simp
 |cons x A ih=>rw[List.flatMap_cons,Yy,ih,Yf,Yn,Nat.add_mul];omega
theorem Zjj (T:List Int) (tx:Nat->Int) (h v a c:Nat):(Za5 T tx (h+1) (some v) a c).length=(((List.range' a (c-a)).filter (ZbD T tx v a c)).map λi=>(Za5 T tx h (kidA T v) a i).length*(Za5 T tx h (kidB T v) (i+1) c).length).sum:=by
 show(List.flatMap _ _).length=_
 rw[List.length_flatMap]
 congr 1
 exact List.map_congr_left λi _=>Zk4 _ _ _
noncomputable def Z4 (S:List Nat) (a c:Nat):Prop:=S.Pairwise (· < ·)/\∀s∈S,a<=s/\s<c
noncomputable def ZeG (tx:Nat->Int) (q e sq se:Nat):Prop:=(e<q->tx se<=tx sq)/\(q<e->tx se<tx sq)
noncomputable def lo (ns:List Int) (v:Nat):Nat:=v-ZW (nth ns) v
noncomputable def wd (ns:List Int) (v:Nat):Nat:=ZW (nth ns) v+1+Zbm (nth ns) ns.length v
noncomputable def Zfz (ns T:List Int) (tx:Nat->Int) (v a c:Nat) (S:List Nat):Prop:=S.length=wd ns v/\Z4 S a c/\ZbD T tx v a c (fnR S (v-lo ns v))=true/\∀q e:Nat,lo ns v<=q->q<lo ns v+wd ns v->q≠v->nth T q=e->ZeG tx q e (fnR S (q-lo ns v)) (fnR S (e-lo ns v))
theorem ZjV {ns T:List Int} (hT:Zk ns T) {v r:Nat} (hv:v<ns.length) (h1:ZeA (nth ns) v<r) (h2:r<v):nth ns v<nth ns r:=by
 obtain⟨f1,_⟩:=Zan (hT.2 v hv)
 rcases f1 with f1|⟨q,f1⟩
 ·exact f1 r h2
 ·rw[ZU f1]at h1
  exact f1.2.2 r (by omega) h2
theorem ZiD {ns T:List Int} (hT:Zk ns T) {v r:Nat} (hv:v<ns.length) (h1:(r:Int)<ZeB (nth ns) ns.length v) (h2:v<r):nth ns v<=nth ns r:=by
 obtain⟨_,f1⟩:=Zan (hT.2 v hv)
 rcases f1 with f1|⟨q,f1⟩
 ·rw[Zbo f1]at h1
  exact f1 r h2 (by omega)
 ·rw[ZV f1]at h1
  exact f1.2.2.2 r h2 (by omega)
theorem ZgH {ns T:List Int} (hT:Zk ns T) {v q:Nat} (hv:v<ns.length) (h1:lo ns v<=q) (h2:q<lo ns v+wd ns v) (hn:q≠v):Over (nth ns) v q:=by
 obtain⟨c1,c2,c3,c4⟩:=Zs hT hv
 unfold lo wd at *
 rcases Nat.lt_or_gt_of_ne hn with z|z
 ·exact .inr ⟨z,λr r1 r2=>ZjV hT hv (by omega) r2⟩
 ·exact .inl ⟨z,λr r1 r2=>ZiD hT hv (by omega) r1⟩
theorem ZgI {ns T:List Int} (hT:Zk ns T) {v q:Nat} (hv:v<ns.length) (hq:q<ns.length) (h:Over (nth ns) v q):lo ns v<=q/\q<lo ns v+wd ns v:=by
 obtain⟨c1,c2,c3,c4⟩:=Zs hT hv
 obtain⟨f1,f2⟩:=Zan (hT.2 v hv)
 unfold lo wd
 rcases h with⟨z,y⟩|⟨z,y⟩
 ·refine⟨by omega,?_⟩
  rcases f2 with f2|⟨r,f2⟩
  ·have:=Zbo f2;omega
  ·have e:=ZV f2
   rcases Nat.lt_or_ge q r with w|w
   ·omega
   ·have:=y r f2.1 w
    have:=f2.2.2.1
    omega
 ·refine⟨?_,by omega⟩
  rcases f1 with f1|⟨r,f1⟩
  ·have:=Zcq f1;omega
  ·have e:=ZU f1
   rcases Nat.lt_or_ge r q with w|w
   ·omega
   ·have:=y r w f1.1
    have:=f1.2.1
    omega
theorem ZfA {ns T:List Int} (hT:Zk ns T) {v q e:Nat} (hv:v<ns.length) (h1:lo ns v<=q) (h2:q<v) (he:nth T q=e):lo ns v<=e/\e<=v:=by
 have hO:=ZgH hT hv h1 (by unfold wd lo at *;omega) (by omega)
 have hq:q<ns.length:=by omega
 have hw:=(Z9 hT hq).mpr ⟨hv,hO⟩
 rw[ZL hT hq he]at hw
 have eO:Over (nth ns) e q:=((Z9 hT hq).mp (by rw[ZL hT hq he];simp)).2
 have hel:e<ns.length:=((Z9 hT hq).mp (by rw[ZL hT hq he];simp)).1
 rcases Yl.mp hw with z|z
 ·subst z;exact⟨by unfold lo;omega,Yd _⟩
 ·have vO:=((Z9 hT hel).mp z).2
  obtain⟨s1,s2⟩:=ZgI hT hv hel vO
  refine⟨s1,?_⟩
  rcases Nat.lt_or_ge v e with y|y
  ·exfalso
   rcases eO with⟨w1,w2⟩|⟨w1,w2⟩
   ·omega
   ·have a1:=w2 v (by omega) y
    rcases vO with⟨b1,b2⟩|⟨b1,b2⟩
    ·have:=b2 e y (Yd _);omega
    ·omega
  ·exact y
theorem ZeT {ns T:List Int} (hT:Zk ns T) {v q e:Nat} (hv:v<ns.length) (h1:v<q) (h2:q<lo ns v+wd ns v) (he:nth T q=e):v<=e/\e<lo ns v+wd ns v:=by
 obtain⟨c1,c2,c3,c4⟩:=Zs hT hv
 have hO:=ZgH hT hv (by unfold lo;omega) h2 (by omega)
 have hq:q<ns.length:=by unfold lo wd at h2;omega
 have hw:=(Z9 hT hq).mpr ⟨hv,hO⟩
 rw[ZL hT hq he]at hw
 have eO:Over (nth ns) e q:=((Z9 hT hq).mp (by rw[ZL hT hq he];simp)).2
 have hel:e<ns.length:=((Z9 hT hq).mp (by rw[ZL hT hq he];simp)).1
 rcases Yl.mp hw with z|z
 ·subst z;exact⟨Yd _,by unfold lo wd;omega⟩
 ·have vO:=((Z9 hT hel).mp z).2
  obtain⟨s1,s2⟩:=ZgI hT hv hel vO
  refine⟨?_,s2⟩
  rcases Nat.lt_or_ge e v with y|y
  ·exfalso
   rcases eO with⟨w1,w2⟩|⟨w1,w2⟩
   ·have a1:=w2 v y (by omega)
    rcases vO with⟨b1,b2⟩|⟨b1,b2⟩
    ·omega
    ·have:=b2 e (Yd _) y;omega
   ·omega
  ·exact y
theorem ZfB {L R:List Nat}{i a c:Nat}:Z4 (L++[i]++R) a c↔Z4 L a i/\(a<=i/\i<c)/\Z4 R (i+1) c:=by
 unfold Z4
 simp only[List.pairwise_append,Yq,YF,Y1,List.Pairwise.nil,List.not_mem_nil,false_implies,implies_true,and_true,true_and]
 constructor
 ·rintro⟨⟨⟨h1,h2⟩,h3,h4⟩,h5⟩
  refine⟨⟨h1,λs hs=>⟨(h5 s (.inl (.inl hs))).1,h2 s hs i rfl⟩⟩,h5 i (.inl (.inr rfl)),h3,λs hs=>⟨?_,(h5 s (.inr hs)).2⟩⟩
  have:=h4 i (.inr rfl) s hs
  omega
 ·rintro⟨⟨h1,h2⟩,h3,h4,h5⟩
  refine⟨⟨⟨h1,λx hx y hy=>?_⟩,h4,λx hx y hy=>?_⟩,λs hs=>?_⟩
  ·subst hy;exact(h2 x hx).2
  ·have h6:=h5 y hy
   rcases hx with hx|hx
   ·have:=h2 x hx;omega
   ·omega
  ·rcases hs with(hs|hs)|hs
   ·have:=h2 s hs;omega
   ·subst hs;exact h3
   ·have:=h5 s hs;omega
theorem Zk5 {L M:List Nat}{k:Nat} (h:k<L.length):fnR (L++M) k=fnR L k:=by simp[fnR,Yr,YX h]
theorem ZeH {L M:List Nat}{k:Nat}:fnR (L++M) (L.length+k)=fnR M k:=by simp[fnR,Yr,YW]
theorem ZfC {ns T:List Int} (hT:Zk ns T) {tx:Nat->Int}{h:Nat} (ih:∀u,u<T.length->wd ns u<h->∀a c S,S∈Za5 T tx h (some u) a c↔Zfz ns T tx u a c S) {v:Nat} (hv:v<T.length) (hw:wd ns v<=h) (a i:Nat) (L:List Nat) :
  L∈Za5 T tx h (kidA T v) a i↔L.length=ZW (nth ns) v/\Z4 L a i/\∀q e:Nat,lo ns v<=q->q<v->nth T q=e->ZeG tx q e (fnR L (q-lo ns v)) (if e=v then i else fnR L (e-lo ns v)):=by
 have eN:=hT.1
 obtain⟨c1,c2,c3,c4⟩:=Zs hT (p:=v) (by omega)
 cases hk:kidA T v with
 |none =>
  have hf:=no_left hT hv hk
  have h0:ZW (nth ns) v=0:=by omega
  obtain⟨h',rfl⟩:∃h',h=h'+1:=⟨h-1,by unfold wd at hw;omega⟩
  show L∈[[]]↔_
  rw[YF,h0]
  constructor
  ·rintro rfl
   refine⟨rfl,⟨List.Pairwise.nil,λs hs=>nomatch hs⟩,λq e q1 q2=>?_⟩
   unfold lo at q1;omega
  ·exact λz=>List.length_eq_zero_iff.mp z.1
 |some u =>
  obtain⟨u1,u2,u3⟩:=kidA_some hk
  obtain⟨_,b1,b2,_⟩:=Zd8 hT (q:=u) (by omega) u3 u1
  obtain⟨d1,d2,d3,d4⟩:=Zs hT (p:=u) (by omega)
  have el:lo ns u=lo ns v:=by unfold lo;omega
  have ew:wd ns u=ZW (nth ns) v:=by unfold wd;omega
  have hfit:∀k,ZbD T tx u a i k=true↔tx i<tx k:=λk=>by
   unfold ZbD
   rw[Ya (by omega),Ya (by omega),decide_eq_true_eq]
  rw[ih u u2 (by unfold wd at hw ew⊢;omega)]
  unfold Zfz
  rw[el,ew,hfit]
  constructor
  ·rintro⟨h1,h2,h3,h4⟩
   refine⟨h1,h2,λq e q1 q2 he=>?_⟩
   by_cases z:q=u
   ·subst z
    have:e=v:=by omega
    subst this
    rw[Yc rfl]
    exact⟨λy=>by omega,λ_=>h3⟩
   ·have ne:e≠v:=λy=>z (Zfy hT (by omega) (by omega) (by rw[he,y]) u3 q2 u1)
    rw[Ya ne]
    exact h4 q e q1 (by unfold lo;omega) z he
  ·rintro⟨h1,h2,h3⟩
   refine⟨h1,h2,?_,λq e q1 q2 z he=>?_⟩
   ·have:=(h3 u v (by unfold lo;omega) u1 u3).2 u1
    rw[Yc rfl]at this
    exact this
   ·have q2':q<v:=by unfold lo at q2;omega
    have ne:e≠v:=λy=>z (Zfy hT (by omega) (by omega) (by rw[he,y]) u3 q2' u1)
    have:=h3 q e q1 q2' he
    rw[Ya ne]at this
    exact this
theorem ZgJ {ns T:List Int} (hT:Zk ns T) {tx:Nat->Int}{h:Nat} (ih:∀u,u<T.length->wd ns u<h->∀a c S,S∈Za5 T tx h (some u) a c↔Zfz ns T tx u a c S) {v:Nat} (hv:v<T.length) (hw:wd ns v<=h) (i c:Nat) (R:List Nat) :
  R∈Za5 T tx h (kidB T v) (i+1) c↔R.length=Zbm (nth ns) ns.length v/\Z4 R (i+1) c/\∀q e:Nat,v<q->q<lo ns v+wd ns v->nth T q=e->ZeG tx q e (fnR R (q-(v+1))) (if e=v then i else fnR R (e-(v+1))):=by
 have eN:=hT.1
 obtain⟨c1,c2,c3,c4⟩:=Zs hT (p:=v) (by omega)
 have elw:lo ns v+wd ns v=v+1+Zbm (nth ns) ns.length v:=by unfold lo wd;omega
 cases hk:kidB T v with
 |none =>
  have hf:=no_right hT hv hk
  have h0:Zbm (nth ns) ns.length v=0:=by omega
  obtain⟨h',rfl⟩:∃h',h=h'+1:=⟨h-1,by unfold wd at hw;omega⟩
  show R∈[[]]↔_
  rw[YF,h0]
  constructor
  ·rintro rfl
   refine⟨rfl,⟨List.Pairwise.nil,λs hs=>nomatch hs⟩,λq e q1 q2=>?_⟩
   omega
  ·exact λz=>List.length_eq_zero_iff.mp z.1
 |some u =>
  obtain⟨u1,u2,u3⟩:=kidB_some hk
  obtain⟨b1,b2,_⟩:=Zdn hT (q:=u) (by omega) u3 u1
  obtain⟨d1,d2,d3,d4⟩:=Zs hT (p:=u) (by omega)
  have el:lo ns u=v+1:=by unfold lo;omega
  have ew:wd ns u=Zbm (nth ns) ns.length v:=by unfold wd;omega
  have hfit:∀k,ZbD T tx u (i+1) c k=true↔tx i<=tx k:=λk=>by
   unfold ZbD
   rw[Ya (by omega),Yc (by omega),decide_eq_true_eq,Nat.add_sub_cancel]
  rw[ih u u2 (by unfold wd at hw ew⊢;omega)]
  unfold Zfz
  rw[el,ew,hfit]
  constructor
  ·rintro⟨h1,h2,h3,h4⟩
   refine⟨h1,h2,λq e q1 q2 he=>?_⟩
   by_cases z:q=u
   ·subst z
    have:e=v:=by omega
    subst this
    rw[Yc rfl]
    exact⟨λ_=>h3,λy=>by omega⟩
   ·have ne:e≠v:=λy=>z (ZeE hT (by omega) (by omega) (by rw[he,y]) u3 q1 u1)
    rw[Ya ne]
    exact h4 q e (by omega) (by omega) z he
  ·rintro⟨h1,h2,h3⟩
   refine⟨h1,h2,?_,λq e q1 q2 z he=>?_⟩
   ·have:=(h3 u v u1 (by unfold lo at el;omega) u3).1 u1
    rw[Yc rfl]at this
    exact this
   ·have ne:e≠v:=λy=>z (ZeE hT (by omega) (by omega) (by rw[he,y]) u3 (by omega) u1)
    have:=h3 q e (by omega) (by omega) he
    rw[Ya ne]at this
    exact this
theorem emb_in {T:List Int}{tx:Nat->Int}{h v a c:Nat}{S:List Nat}:S∈Za5 T tx (h+1) (some v) a c↔∃i L R,(a<=i/\i<c)/\ZbD T tx v a c i=true/\L∈Za5 T tx h (kidA T v) a i/\R∈Za5 T tx h (kidB T v) (i+1) c/\S=L++[i]++R:=by
 show S∈List.flatMap _ _↔_
 simp only[List.mem_flatMap,YO,YG,List.mem_range'_1]
 constructor
 ·rintro⟨i,⟨hi,hf⟩,L,hL,R,hR,rfl⟩
  exact⟨i,L,R,⟨by omega,by omega⟩,hf,hL,hR,rfl⟩
 ·rintro⟨i,L,R,hi,hf,hL,hR,rfl⟩
  exact⟨i,⟨by omega,hf⟩,L,hL,R,hR,rfl⟩
theorem Zjk {ns T:List Int} (hT:Zk ns T) (tx:Nat->Int):∀h v,v<T.length->wd ns v<h->∀a c S,S∈Za5 T tx h (some v) a c↔Zfz ns T tx v a c S:=by
 have eN:=hT.1
 intro h
 induction h with
 |zero=>intro v _ z;omega
 |succ h ih =>
  intro v hv hw a c S
  obtain⟨c1,c2,c3,c4⟩:=Zs hT (p:=v) (by omega)
  have hvl:v-lo ns v=ZW (nth ns) v:=by unfold lo;omega
  have elw:lo ns v+wd ns v=v+1+Zbm (nth ns) ns.length v:=by unfold lo wd;omega
  have ewd:wd ns v=ZW (nth ns) v+1+Zbm (nth ns) ns.length v:=rfl
  have elo:lo ns v+ZW (nth ns) v=v:=by unfold lo;omega
  rw[emb_in]
  have fin:∀(L R:List Nat) (i:Nat),L.length=ZW (nth ns) v->R.length=Zbm (nth ns) ns.length v->((∀q e:Nat,lo ns v<=q->q<lo ns v+wd ns v->q≠v->nth T q=e->ZeG tx q e (fnR (L++[i]++R) (q-lo ns v)) (fnR (L++[i]++R) (e-lo ns v)))↔(∀q e:Nat,lo ns v<=q->q<v->nth T q=e->ZeG tx q e (fnR L (q-lo ns v)) (if e=v then i else fnR L (e-lo ns v)))/\∀q e:Nat,v<q->q<lo ns v+wd ns v->nth T q=e->ZeG tx q e (fnR R (q-(v+1))) (if e=v then i else fnR R (e-(v+1)))):=λL R i hL hR=>by
   have fl:∀q,lo ns v<=q->q<v->fnR (L++[i]++R) (q-lo ns v)=fnR L (q-lo ns v):=λq q1 q2=>by
    rw[YD,Zk5 (by omega)]
   have fv:fnR (L++[i]++R) (v-lo ns v)=i:=by
    rw[YD,hvl,<-hL,show L.length=L.length+0 from rfl,ZeH];rfl
   have fr:∀q,v<q->fnR (L++[i]++R) (q-lo ns v)=fnR R (q-(v+1)):=λq q1=>by
    have e:q-lo ns v=(L++[i]).length+(q-(v+1)):=by simp;omega
    rw[e,ZeH]
   constructor
   ·intro H
    refine⟨λq e q1 q2 he=>?_,λq e q1 q2 he=>?_⟩
    ·obtain⟨e1,e2⟩:=ZfA hT (by omega) q1 q2 he
     have:=H q e q1 (by omega) (by omega) he
     rw[fl q q1 q2]at this
     by_cases z:e=v
     ·rw[Yc z];rw[z,fv]at this;rw[z];exact this
     ·rw[Ya z];rw[fl e e1 (by omega)]at this;exact this
    ·obtain⟨e1,e2⟩:=ZeT hT (by omega) q1 q2 he
     have:=H q e (by omega) q2 (by omega) he
     rw[fr q q1]at this
     by_cases z:e=v
     ·rw[Yc z];rw[z,fv]at this;rw[z];exact this
     ·rw[Ya z];rw[fr e (by omega)]at this;exact this
   ·rintro⟨H1,H2⟩ q e q1 q2 hn he
    rcases Nat.lt_or_gt_of_ne hn with z|z
    ·obtain⟨e1,e2⟩:=ZfA hT (by omega) q1 z he
     have:=H1 q e q1 z he
     rw[fl q q1 z]
     by_cases y:e=v
     ·rw[Yc y]at this;rw[y,fv];rw[y]at this;exact this
     ·rw[Ya y]at this;rw[fl e e1 (by omega)];exact this
    ·obtain⟨e1,e2⟩:=ZeT hT (by omega) z q2 he
     have:=H2 q e z q2 he
     rw[fr q z]
     by_cases y:e=v
     ·rw[Yc y]at this;rw[y,fv];rw[y]at this;exact this
     ·rw[Ya y]at this;rw[fr e (by omega)];exact this
  have fvv:∀(L R:List Nat) (i:Nat),L.length=ZW (nth ns) v->fnR (L++[i]++R) (v-lo ns v)=i:=λL R i hL=>by
   rw[YD,hvl,<-hL,show L.length=L.length+0 from rfl,ZeH];rfl
  unfold Zfz
  constructor
  ·rintro⟨i,L,R,hi,hf,hL,hR,rfl⟩
   obtain⟨l1,l2,l3⟩:=(ZfC hT ih hv (by omega) a i L).mp hL
   obtain⟨r1,r2,r3⟩:=(ZgJ hT ih hv (by omega) i c R).mp hR
   exact⟨by simp;omega,ZfB.mpr ⟨l2,hi,r2⟩,by rw[fvv L R i l1];exact hf,(fin L R i l1 r1).mpr ⟨l3,r3⟩⟩
  ·rintro⟨h1,h2,h3,h4⟩
   have hlt:ZW (nth ns) v<S.length:=by omega
   have eS:S=S.take (ZW (nth ns) v)++[S[ZW (nth ns) v]]++S.drop (ZW (nth ns) v+1):=by
    rw[YD,List.singleton_append,List.getElem_cons_drop,Y8]
   have lL:(S.take (ZW (nth ns) v)).length=ZW (nth ns) v:=by rw[YZ];omega
   have lR:(S.drop (ZW (nth ns) v+1)).length=Zbm (nth ns) ns.length v:=by rw[Y3];omega
   generalize S.take (ZW (nth ns) v)=L at eS lL
   generalize S.drop (ZW (nth ns) v+1)=R at eS lR
   generalize S[ZW (nth ns) v]=i at eS
   subst eS
   obtain⟨g1,g2,g3⟩:=ZfB.mp h2
   obtain⟨f1,f2⟩:=(fin L R i lL lR).mp h4
   rw[fvv L R i lL]at h3
   exact⟨i,L,R,g2,h3,(ZfC hT ih hv (by omega) a i L).mpr ⟨lL,g1,f1⟩,(ZgJ hT ih hv (by omega) i c R).mpr ⟨lR,g3,f2⟩,rfl⟩
theorem emb_nd {ns T:List Int} (hT:Zk ns T) (tx:Nat->Int):∀h v,v<T.length->wd ns v<h->∀a c,(Za5 T tx h (some v) a c).Nodup:=by
 have eN:=hT.1
 intro h
 induction h with
 |zero=>intro v _ z;omega
 |succ h ih =>
  intro v hv hw a c
  obtain⟨c1,c2,c3,c4⟩:=Zs hT (p:=v) (by omega)
  have ewd:wd ns v=ZW (nth ns) v+1+Zbm (nth ns) ns.length v:=rfl
  have lmem:=λa i L=>ZfC hT (Zjk hT tx h) hv (by omega) a i L
  have hA:∀a i,(Za5 T tx h (kidA T v) a i).Nodup:=λa i=>by
   cases hk:kidA T v with
   |none =>
    cases h with
    |zero=>exact List.nodup_nil
    |succ h=>exact List.nodup_cons.mpr ⟨by simp,List.nodup_nil⟩
   |some u =>
    obtain⟨u1,u2,u3⟩:=kidA_some hk
    obtain⟨_,b1,b2,_⟩:=Zd8 hT (q:=u) (by omega) u3 u1
    obtain⟨d1,d2,d3,d4⟩:=Zs hT (p:=u) (by omega)
    exact ih u u2 (by unfold wd at *;omega) a i
  have hB:∀a i,(Za5 T tx h (kidB T v) a i).Nodup:=λa i=>by
   cases hk:kidB T v with
   |none =>
    cases h with
    |zero=>exact List.nodup_nil
    |succ h=>exact List.nodup_cons.mpr ⟨by simp,List.nodup_nil⟩
   |some u =>
    obtain⟨u1,u2,u3⟩:=kidB_some hk
    obtain⟨b1,b2,_⟩:=Zdn hT (q:=u) (by omega) u3 u1
    obtain⟨d1,d2,d3,d4⟩:=Zs hT (p:=u) (by omega)
    exact ih u u2 (by unfold wd at *;omega) a i
  show(List.flatMap _ _).Nodup
  unfold List.Nodup
  rw[List.pairwise_flatMap]
  refine⟨λi _=>?_,?_⟩
  ·rw[List.pairwise_flatMap]
   refine⟨λL _=>?_,?_⟩
   ·rw[List.pairwise_map]
    exact(hB (i+1) c).imp λ{x y} n e=>n (List.append_cancel_left e)
   ·refine List.Pairwise.imp_of_mem (λ{L L'} hL hL' n x hx y hy e=>?_) (hA a i)
    obtain⟨R,_,rfl⟩:=YG.mp hx
    obtain⟨R',_,rfl⟩:=YG.mp hy
    have l1:=((lmem a i L).mp hL).1
    have l2:=((lmem a i L').mp hL').1
    rw[YD,YD]at e
    exact n (List.append_inj e (by omega)).1
  ·refine List.Pairwise.imp (λ{i j} n x hx y hy e=>?_) (List.Pairwise.filter _ (List.pairwise_lt_range' (s:=a) (n:=c-a)))
   obtain⟨L,hL,hx⟩:=List.mem_flatMap.mp hx
   obtain⟨R,_,rfl⟩:=YG.mp hx
   obtain⟨L',hL',hy⟩:=List.mem_flatMap.mp hy
   obtain⟨R',_,rfl⟩:=YG.mp hy
   have l1:=((lmem a i L).mp hL).1
   have l2:=((lmem a j L').mp hL').1
   rw[YD,YD]at e
   have:=(List.append_inj e (by omega)).2
   simp at this
   omega
theorem up_tree {T us:List Int} (hG:ZgB T) (hl:us.length=T.length) (h:∀p q:Nat,p<T.length->nth T p=q->nth us q-nth (ZeQ T) q<=nth us p-nth (ZeQ T) p):Zk us T:=by
 obtain⟨_,nsT,hT⟩:=hG
 have eT:=hT.1
 have hup:∀o p,o<nsT.length->p<nsT.length->Over (nth nsT) o p->nth us o-nth (ZeQ T) o<=nth us p-nth (ZeQ T) p:=λo p ho hp hO =>
  ZhL hT (R:=λo p=>nth us o-nth (ZeQ T) o<=nth us p-nth (ZeQ T) p) (λp q hp hq e _=>h p q (by omega) e) (λo q p _ _ r1 r2=>by omega) _ p o hp ho rfl hO
 refine⟨hl.symm,λp hp=>?_⟩
 rw[show us.length=nsT.length by omega]at hp⊢
 refine ZkR hT (λq p hq hp hO=>?_) p hp
 have h1:=hup q p hq hp hO
 have h2:=ZjM hT hp hq hO
 rw[Zdm (by omega),Zdm (by omega)]at h1
 exact⟨λ_=>by omega,λz=>by have:=h2.2 z;omega⟩
theorem Zjl {ns T:List Int} (hT:Zk ns T) {v:Nat} (hv:v<T.length) (h:nth T v=v):False:=by
 have h3:=(way_nd hT _ v hv (Yd _)).2
 rw[ZL hT (by have:=hT.1;omega) h]at h3
 exact h3 (by simp)
theorem Zk6 {ns T:List Int} (hT:Zk ns T) (tx:Nat->Int):∀h v,v<T.length->T.length-(way T v).length<h->∀a c,Za5 T tx (h+1) (some v) a c=Za5 T tx h (some v) a c:=by
 have eN:=hT.1
 intro h
 induction h with
 |zero=>intro v hv z;omega
 |succ h ih =>
  intro v hv hl a c
  have hw:=way_lt hT hv
  have kid:∀o:Option Nat,(∀q,o=some q->nth T q=v/\q<T.length)->∀a c,Za5 T tx (h+1) o a c=Za5 T tx h o a c:=λo ho a c=>by
   cases o with
   |none =>
    cases h with
    |zero=>omega
    |succ h=>rfl
   |some q =>
    obtain⟨x1,x2⟩:=ho q rfl
    exact ih q x2 (by rw[ZL hT (by omega) x1,Yn];omega) a c
  have k1:=kid (kidA T v) (λq e=>⟨(kidA_some e).2.2,(kidA_some e).2.1⟩)
  have k2:=kid (kidB T v) (λq e=>⟨(kidB_some e).2.2,(kidB_some e).2.1⟩)
  show List.flatMap _ _=List.flatMap _ _
  congr 1
  funext i
  rw[k1]
  congr 1
  funext L
  rw[k2]
theorem ZmO {ns T:List Int} (hT:Zk ns T) (h40:T.length<=40) (hne:T≠[]) (ts:List Int) (N:Nat) (S:List Nat):S∈Za5 T (nth ts) (T.length+1) (some (T.idxOf (-1))) 0 N↔S.length=T.length/\Z4 S 0 N/\Zk (S.map (nth ts)) T:=by
 have eN:=hT.1
 have h0:=List.length_pos_iff.mpr hne
 have hm1:=top_in hT _ 0 h0 (Yd _)
 have ht:=List.idxOf_lt_length_of_mem hm1
 have ht2:nth T (T.idxOf (-1))=-1:=by
  unfold nth
  rw[Yr,Ye ht]
  simp
 obtain⟨g1,g2⟩:=top_fen hT ht ht2
 obtain⟨c1,c2,c3,c4⟩:=Zs hT (p:=T.idxOf (-1)) (by omega)
 have el:lo ns (T.idxOf (-1))=0:=by unfold lo;omega
 have ew:wd ns (T.idxOf (-1))=T.length:=by unfold wd;omega
 rw[Zjk hT (nth ts) _ _ ht (by omega)]
 unfold Zfz
 rw[el,ew]
 have hfit:∀k,ZbD T (nth ts) (T.idxOf (-1)) 0 N k=true:=λk=>by unfold ZbD;rw[Yc ht2]
 have hnth:∀q,q<S.length->nth (S.map (nth ts)) q=nth ts (fnR S q):=λq hq=>by
  simp[nth,fnR,Yr,hq]
 have el:∀q e:Nat,q<T.length->nth T q=e->e<T.length/\q≠e:=λq e hq he=>by
  rcases way_step hT hq with⟨z,_⟩|⟨q',z,hq',zw⟩
  ·omega
  ·have:e=q':=by omega
   subst this
   refine⟨hq',λy=>?_⟩
   subst y
   exact Zjl hT hq he
 constructor
 ·rintro⟨h1,h2,_,h4⟩
  refine⟨h1,h2,?_⟩
  refine up_tree ⟨h40,ns,hT⟩ (by rw[Yf];exact h1) λp q hp e=>?_
  obtain⟨e1,e2⟩:=el p q hp e
  have hnt:p≠T.idxOf (-1):=λz=>by rw[z,ht2]at e;omega
  have hl:=h4 p q (Yu _) (by omega) hnt e
  rw[Nat.sub_zero,Nat.sub_zero]at hl
  have hO:Over (nth ns) q p:=((Z9 hT (by omega)).mp (by rw[ZL hT (by omega) e];simp)).2
  have hs:=ZgD hT (by omega) (by omega) e hO
  rw[Zdm (by omega),Zdm (by omega),hnth q (by omega),hnth p (by omega)]
  by_cases z:p<q
  ·have:=hl.2 z
   rw[Yc z]at hs;omega
  ·have:=hl.1 (by omega)
   rw[Ya z]at hs;omega
 ·rintro⟨h1,h2,h3⟩
  have lM:(S.map (nth ts)).length=S.length:=Yf ..
  refine⟨h1,h2,hfit _,λq e q1 q2 hn he=>?_⟩
  obtain⟨e1,e2⟩:=el q e (by omega) he
  rw[Nat.sub_zero,Nat.sub_zero]
  obtain⟨_,hO⟩:=(Z9 h3 (by omega)).mp (show e∈way T q by rw[ZL h3 (by omega) he];simp)
  rcases hO with⟨y1,y2⟩|⟨y1,y2⟩
  ·have:=y2 q y1 (Yd _)
   rw[hnth e (by omega),hnth q (by omega)]at this
   exact⟨λ_=>this,λz=>by omega⟩
  ·have:=y2 q (Yd _) y1
   rw[hnth e (by omega),hnth q (by omega)]at this
   exact⟨λz=>by omega,λ_=>this⟩
noncomputable def sp_young_of:SpT:=λK mg vs H Q E=>∃(t:Addr) (T:List Int),vs=[.ref t]/\SqT K H t (T.map V.int)/\ZgB T/\∀(y:Addr) H',H y=none->YoungAt H' y T->Zf H H'->Q (.ref y) H'
noncomputable def cHo (mg:Str->Option Value):Addr:=clsAt mg "Holding"
structure Ha where
 x:Addr
 t:Addr
 y:Addr
 tx:Addr
 kn:Addr
noncomputable def HFlds (fs:List (Str×V)) (a:Ha):Prop:=fs.lookup (Str.ofString "text")=some (.ref a.tx)/\fs.lookup (Str.ofString "tree")=some (.ref a.t)/\fs.lookup (Str.ofString "young")=some (.ref a.y)/\fs.lookup (Str.ofString "known")=some (.ref a.kn)/\fs.lookup (Str.ofString "ways")=none/\fs.lookup (Str.ofString "fits")=none/\fs.lookup (Str.ofString "ways_at")=none
noncomputable def waC (T ts:List Int) (o:Option Nat) (a c:Nat):Nat:=match o with
 |none=>1
 |some v=>(Za5 T (nth ts) (T.length+1) (some v) a c).length
noncomputable def Zc2 (v a c:Nat):List Key:=[.inl (v:Int),.inl (a:Int),.inl ((c:Int)-1)]
noncomputable def allK (n N:Nat):List (List Key):=(List.range n).flatMap λv=>(List.range (N+2)).flatMap λa=>(List.range (N+1)).map λc=>Zc2 v a c
noncomputable def ZiE (kvs:List (List Key×V)) (T ts:List Int):Prop:=(kvs.map (·.1)).Nodup/\(∀k∈kvs.map (·.1),k∈allK T.length ts.length)/\∀v a c:Nat,∀w,Za3 kvs (Zc2 v a c)=some w->w=.int (waC T ts (some v) a c:Nat)
noncomputable def Za6 (K:PySem.W.Frag) (mg:Str->Option Value) (H:Hp) (a:Ha) (T ts:List Int):Prop:=∃(dx:Addr) (fs:List (Str×V)) (kvs:List (List Key×V)),H a.x=some (.ins (cHo mg) dx fs)/\HFlds fs a/\ZeF H a.t (T.map V.int)/\YoungAt H a.y T/\(H a.tx=some (.lst (ts.map V.int))\/H a.tx=some (.tup (ts.map V.int)))/\H a.kn=some (.dT kvs)/\ZiE kvs T ts
noncomputable def Zbi:SpT:=λK mg vs H Q E=>∃(h:Ha) (T ts:List Int) (v a c i:Nat),vs=[.ref h.x,.int v,.int a,.int ((c:Int)-1),.int i]/\Za6 K mg H h T ts/\ZgB T/\v<T.length/\a<=i/\i<c/\c<=ts.length/\(∀e:Nat,nth T v=e->(e<v->0<a)/\(v<e->c<ts.length))/\Q (.bl (ZbD T (nth ts) v a c i)) H
noncomputable def Zaf (n:Nat):SpT:=λK mg vs H Q E=>match n with
 |0=>False
 |n+1=>∃(h:Ha) (T ts:List Int) (o:Option Nat) (a c:Nat),vs=[.ref h.x,optN o,.int a,.int ((c:Int)-1)]/\Za6 K mg H h T ts/\ZgB T/\T.length<=6/\ts.length<=16/\a<=c/\c<=ts.length/\(∀v,o=some v->v<T.length/\2*(T.length-(way T v).length)+1<=n/\∀e:Nat,nth T v=e->(e<v->0<a)/\(v<e->c<ts.length))/\∀H',Exc h.kn H H'->Za6 K mg H' h T ts->Q (.int (waC T ts o a c:Nat)) H'
noncomputable def Ze5:SpT:=Zaf 20
noncomputable def Zai (n:Nat):SpT:=λK mg vs H Q E=>match n with
 |0=>False
 |n+1=>∃(h:Ha) (T ts:List Int) (v a c i:Nat),vs=[.ref h.x,.int v,.int a,.int ((c:Int)-1),.int i]/\Za6 K mg H h T ts/\ZgB T/\T.length<=6/\ts.length<=16/\a<=i/\i<c/\c<=ts.length/\v<T.length/\2*(T.length-(way T v).length)<=n/\∀H',Exc h.kn H H'->Za6 K mg H' h T ts->Q (.int (waC T ts (kidA T v) a i*waC T ts (kidB T v) (i+1) c:Nat)) H'
noncomputable def Zb0:SpT:=λK mg vs H Q E=>∃(r x:Addr) (ns ts:List Int),vs=[.ref r,.ref x]/\(SqL K H r (ns.map V.int)\/SqT K H r (ns.map V.int))/\(SqL K H x (ts.map V.int)\/SqT K H x (ts.map V.int))/\0<ns.length/\ns.length<=6/\ts.length<=16/\Q .non H
noncomputable def sp_tree_of:SpT:=λK mg vs H Q E=>∃(r:Addr) (ns:List Int),vs=[.ref r]/\(SqL K H r (ns.map V.int)\/SqT K H r (ns.map V.int))/\ns.length<=1000/\∀(t:Addr) (es:List Int) H',Zk ns es->Zf H H'->ZeF H' t (es.map V.int)->Q (.ref t) H'
noncomputable def Zat:SpT:=λK mg vs H Q E=>∃(x dx r tx:Addr) (ns ts:List Int),vs=[.ref x,.ref r,.ref tx]/\H x=some (.ins (cHo mg) dx [])/\(SqL K H r (ns.map V.int)\/SqT K H r (ns.map V.int))/\(H tx=some (.lst (ts.map V.int))\/H tx=some (.tup (ts.map V.int)))/\ns.length<=6/\(∀Hx,Exc x H Hx->SqL K Hx r (ns.map V.int)\/SqT K Hx r (ns.map V.int))/\∀(a:Ha) (T:List Int) H',a.x=x->H a.kn=none->Exc x H H'->Zk ns T->Za6 K mg H' a T ts->Q .non H'
noncomputable def Za7:SpT:=λK mg vs H Q E=>∃(r tx:Addr) (ns ts:List Int),vs=[.ref r,.ref tx]/\(H r=some (.lst (ns.map V.int))\/H r=some (.tup (ns.map V.int)))/\(H tx=some (.lst (ts.map V.int))\/H tx=some (.tup (ts.map V.int)))/\0<ns.length/\ns.length<=6/\ts.length<=16/\∀(T:List Int) H',Zk ns T->Zf H H'->Q (.int (waC T ts (some (T.idxOf (-1))) 0 ts.length:Nat)) H'
noncomputable def Ris (N:Nat) (r:List Int):Prop:=(∀x∈r,0<=x/\x<(N:Int))/\r.Pairwise (· < ·)
noncomputable def atL (ts r:List Int):List Int:=r.map λx=>nth ts x.toNat
noncomputable def Zk7 (ns ts r:List Int):Prop:=r.length=ns.length/\Ris ts.length r/\∃W,Zk ns W/\Zk (atL ts r) W
noncomputable def Zbj:Nat->Nat->Nat
 |_,0=>1
 |0,_+1=>0
 |N+1,k+1=>Zbj N (k+1)+Zbj N k
theorem ZbE:∀N k,N<k->Zbj N k=0
 |_,0,h=>absurd h (by omega)
 |0,_+1,_=>rfl
 |N+1,k+1,h=>by rw[Zbj,ZbE N (k+1) (by omega),ZbE N k (by omega)]
theorem Zdo:∀N k,Zbj N k*(N-k)=Zbj N (k+1)*(k+1)
 |0,0=>rfl
 |0,k+1=>by simp[Zbj]
 |N+1,0=>by
  have:=Zdo N 0
  simp only[Zbj,Nat.sub_zero,Nat.one_mul,Nat.zero_add,Nat.mul_one]at this⊢
  omega
 |N+1,k+1=>by
  have h1:=Zdo N (k+1)
  have h2:=Zdo N k
  rw[Zbj,Zbj,Nat.add_mul,Nat.add_mul,show N+1-(k+1)=N-k by omega,h2]
  by_cases c:k+1<=N
  ·have e1:Zbj N (k+1+1)*(k+1+1)=Zbj N (k+1)*(N-(k+1)):=h1.symm
   rw[e1,<-Nat.mul_add,<-Nat.mul_add,show N-k+(k+1)=N-(k+1)+(k+1+1) by omega]
  ·rw[ZbE N (k+1) (by omega),ZbE N (k+1+1) (by omega)]
   simp
theorem Zfm:∀N k,Zbj N k<=2 ^ N
 |N,0=>by cases N<;>exact Nat.one_le_two_pow
 |0,_+1=>Yu _
 |N+1,k+1=>by
  have h1:=Zfm N (k+1)
  have h2:=Zfm N k
  rw[Zbj,Nat.pow_succ];omega
noncomputable def chL:Nat->Nat->List (List Nat)
 |_,0=>[[]]
 |0,_+1=>[]
 |N+1,k+1=>chL N (k+1)++(chL N k).map λS=>S++[N]
theorem Zfn:∀N k,(chL N k).length=Zbj N k
 |_,0=>by unfold chL Zbj;rfl
 |0,_+1=>rfl
 |N+1,k+1=>by rw[chL,Zbj,Yy,Yf,Zfn,Zfn]
theorem ZeI {S:List Nat}{x N:Nat}:Z4 (S++[x]) 0 N↔Z4 S 0 x/\x<N:=by
 have:=ZfB (L:=S) (R:=[]) (i:=x) (a:=0) (c:=N)
 rw[List.append_nil]at this
 rw[this]
 exact⟨λh=>⟨h.1,h.2.1.2⟩,λh=>⟨h.1,⟨Yu _,h.2⟩,List.Pairwise.nil,λs hs=>nomatch hs⟩⟩
theorem ZjW {S:List Nat}{M N:Nat} (h:Z4 S 0 M) (hm:M<=N):Z4 S 0 N:=⟨h.1,λs hs=>⟨Yu _,Yp (h.2 s hs).2 hm⟩⟩
theorem Zdp:∀N k S,S∈chL N k↔S.length=k/\Z4 S 0 N
 |N,0,S=>by
  have e:chL N 0=[[]]:=by unfold chL;rfl
  rw[e,YF]
  exact⟨λh=>by subst h;exact⟨rfl,List.Pairwise.nil,λs hs=>nomatch hs⟩,λh=>List.length_eq_zero_iff.mp h.1⟩
 |0,k+1,S=>by
  refine⟨(λh=>nomatch h),λ⟨h1,_,h2⟩=>?_⟩
  cases S with
  |nil=>cases h1
  |cons x S=>exact absurd (h2 x (by simp)).2 (by omega)
 |N+1,k+1,S=>by
  rw[chL,Yq,Zdp N (k+1) S,YG]
  constructor
  ·rintro(⟨h1,h2⟩|⟨T,h,rfl⟩)
   ·exact⟨h1,ZjW h2 (by omega)⟩
   ·obtain⟨h1,h2⟩:=(Zdp N k T).mp h
    exact⟨by simp[h1],ZeI.mpr ⟨h2,by omega⟩⟩
  ·rintro⟨h1,h2⟩
   rcases List.eq_nil_or_concat S with rfl|⟨T,x,rfl⟩
   ·cases h1
   ·rw[List.concat_eq_append]at h1 h2⊢
    obtain⟨h3,h4⟩:=ZeI.mp h2
    by_cases c:x=N
    ·subst c
     exact .inr ⟨T,(Zdp x k T).mpr ⟨by simpa using h1,h3⟩,rfl⟩
    ·exact .inl ⟨h1,ZeI.mpr ⟨h3,by omega⟩⟩
theorem ZiF:∀N k,(chL N k).Nodup
 |N,0=>by
  have e:chL N 0=[[]]:=by unfold chL;rfl
  rw[e];exact List.nodup_cons.mpr ⟨by simp,List.nodup_nil⟩
 |0,k+1=>List.nodup_nil
 |N+1,k+1=>by
  rw[chL]
  refine List.nodup_append.mpr ⟨ZiF N (k+1),?_,λS hS T hT e=>?_⟩
  ·unfold List.Nodup
   rw[List.pairwise_map]
   exact(ZiF N k).imp λ{x y} n e=>n (List.append_cancel_right e)
  ·subst e
   obtain⟨T,h,rfl⟩:=YG.mp hT
   have:=((Zdp N (k+1) _).mp hS).2.2 N (by simp)
   omega
theorem Zha {α:Type} [DecidableEq α]:∀{L M:List α},L.Nodup->(∀x∈L,x∈M)->L.length<=M.length
 |[],_,_,_=>Yu _
 |x::L,M,nd,h=>by
  obtain⟨n1,n2⟩:=List.nodup_cons.mp nd
  have hx:=h x (by simp)
  have:=Zha (L:=L) (M:=M.erase x) n2 λy hy=>(List.mem_erase_of_ne (λe=>by subst e;exact n1 hy)).mpr (h y (YN _ hy))
  rw[List.length_erase_of_mem hx]at this
  have:=List.length_pos_of_mem hx
  rw[Yn];omega
theorem ZhR {α:Type} [DecidableEq α] {L M:List α} (h1:L.Nodup) (h2:M.Nodup) (h:∀x,x∈L↔x∈M):L.length=M.length :=
 Nat.le_antisymm (Zha h1 λx hx=>(h x).mp hx) (Zha h2 λx hx=>(h x).mpr hx)
noncomputable def Ze6 (S:List Nat):List Int:=S.map λ(n:Nat)=>(n:Int)
theorem ZhS (ts:List Int) (S:List Nat):atL ts (Ze6 S)=S.map (nth ts):=by
 unfold atL Ze6
 rw[YV];rfl
theorem ZfD (N:Nat) (S:List Nat):Ris N (Ze6 S)↔Z4 S 0 N:=by
 unfold Ris Z4 Ze6
 rw[List.pairwise_map]
 constructor
 ·rintro⟨h1,h2⟩
  exact⟨h2.imp λ{a b} h=>by omega,λs hs=>⟨Yu _,by have:=(h1 (s:Int) (YG.mpr ⟨s,hs,rfl⟩)).2;omega⟩⟩
 ·rintro⟨h1,h2⟩
  refine⟨λx hx=>?_,h1.imp λ{a b} h=>by omega⟩
  obtain⟨s,hs,rfl⟩:=YG.mp hx
  have:=(h2 s hs).2
  exact⟨by omega,by omega⟩
theorem ZhT {N:Nat}{r:List Int} (h:Ris N r):∃S,r=Ze6 S:=by
 refine⟨r.map Int.toNat,?_⟩
 unfold Ze6
 rw[YV]
 refine(List.map_id' r).symm.trans (List.map_congr_left λx hx=>?_)
 have:=(h.1 x hx).1
 show x=((x.toNat:Nat):Int)
 omega
theorem Zhb {ns T:List Int} (hT:Zk ns T) (h40:ns.length<=40) (h0:0<ns.length) (ts:List Int):∃L:List (List Nat),L.Nodup/\waC T ts (some (T.idxOf (-1))) 0 ts.length=L.length/\∀S,S∈L↔S.length=T.length/\Z4 S 0 ts.length/\Zk (S.map (nth ts)) T:=by
 have eN:=hT.1
 have hm1:=top_in hT _ 0 (by omega) (Yd _)
 have ht:=List.idxOf_lt_length_of_mem hm1
 have ht2:nth T (T.idxOf (-1))=-1:=by
  unfold nth
  rw[Yr,Ye ht]
  simp
 obtain⟨c1,c2,c3,c4⟩:=Zs hT (p:=T.idxOf (-1)) (by omega)
 obtain⟨g1,g2⟩:=top_fen hT ht ht2
 refine⟨_,emb_nd hT (nth ts) (T.length+1) (T.idxOf (-1)) ht (by unfold wd;omega) 0 ts.length,rfl,λS=>?_⟩
 exact ZmO hT (by omega) (λz=>by rw[z]at eN;simp at eN;omega) ts ts.length S
theorem ZiG {ns T ts:List Int}{rs:List (List Int)} (hT:Zk ns T) (h40:ns.length<=40) (h0:0<ns.length) (nd:rs.Nodup) (hrs:∀r,r∈rs↔Zk7 ns ts r):rs.length=waC T ts (some (T.idxOf (-1))) 0 ts.length:=by
 obtain⟨L,l1,l2,l3⟩:=Zhb hT h40 h0 ts
 rw[l2,<-Yf Ze6]
 refine ZhR nd ?_ λr=>?_
 ·unfold List.Nodup
  rw[List.pairwise_map]
  refine l1.imp λ{x y} n e=>n ?_
  unfold Ze6 at e
  exact(List.map_inj_right (λ(a b:Nat) (h:(a:Int)=b)=>by omega)).mp e
 ·rw[hrs r,YG]
  constructor
  ·rintro⟨h1,h2,W,h3,h4⟩
   obtain⟨S,rfl⟩:=ZhT h2
   have:=h3.unique hT
   subst this
   rw[ZhS]at h4
   exact⟨S,(l3 S).mpr ⟨by rw[hT.1,<-h1];simp[Ze6],(ZfD _ _).mp h2,h4⟩,rfl⟩
  ·rintro⟨S,hS,rfl⟩
   obtain⟨h1,h2,h3⟩:=(l3 S).mp hS
   exact⟨by rw[<-hT.1,<-h1];simp[Ze6],(ZfD _ _).mpr h2,T,hT,by rw[ZhS];exact h3⟩
theorem plain_all {ns T ts:List Int} (hT:Zk ns T) (h40:ns.length<=40) (h0:0<ns.length) (h:∀S:List Nat,S.length=T.length->Z4 S 0 ts.length->Zk (S.map (nth ts)) T):waC T ts (some (T.idxOf (-1))) 0 ts.length=Zbj ts.length ns.length:=by
 obtain⟨L,l1,l2,l3⟩:=Zhb hT h40 h0 ts
 rw[l2,<-Zfn]
 refine ZhR l1 (ZiF _ _) λS=>?_
 rw[l3,Zdp,hT.1]
 exact⟨λh=>⟨h.1,h.2.1⟩,λg=>⟨g.1,g.2,h S (by rw[hT.1];exact g.1) g.2⟩⟩
theorem ZfE {ns T ts:List Int} (hT:Zk ns T) (h40:ns.length<=40) (h0:0<ns.length) (h:∀S:List Nat,S.length=T.length->Z4 S 0 ts.length->¬ Zk (S.map (nth ts)) T):waC T ts (some (T.idxOf (-1))) 0 ts.length=0:=by
 obtain⟨L,l1,l2,l3⟩:=Zhb hT h40 h0 ts
 rw[l2]
 refine List.length_eq_zero_iff.mpr (List.eq_nil_iff_forall_not_mem.mpr λS hS=>?_)
 obtain⟨h1,h2,h3⟩:=(l3 S).mp hS
 exact h S h1 h2 h3
noncomputable def Up (us:List Int):Prop:=us.Pairwise (·<=·)
noncomputable def Dn (us:List Int):Prop:=us.Pairwise (· > ·)
theorem ZfF {R:Int->Int->Prop}{us:List Int} (h:us.Pairwise R) {i j:Nat} (h1:i<j) (h2:j<us.length):R (nth us i) (nth us j):=by
 unfold nth
 rw[Yr,Yr,Ye (by omega),Ye h2]
 exact List.pairwise_iff_getElem.mp h i j (by omega) h2 h1
noncomputable def upT (k:Nat):List Int:=(List.range k).map λi=>((i:Nat):Int)-1
noncomputable def dnT (k:Nat):List Int:=(List.range k).map λi=>if i+1<k then ((i+1:Nat):Int)else -1
theorem Zci {us:List Int} (h:Up us):Zk us (upT us.length):=by
 refine⟨by simp[upT],λp hp=>?_⟩
 have e:(upT us.length).getD p 0=(p:Int)-1:=by simp[upT,Yr,hp]
 rw[e]
 have nx:Za2 (nth us) us.length p:=λr h1 h2=>ZfF h h1 h2
 cases p with
 |zero=>exact .inl ⟨λq hq=>absurd hq (by omega),nx,by omega⟩
 |succ p=>exact .inr (.inl ⟨p,⟨by omega,ZfF h (by omega) hp,λr h1 h2=>by omega⟩,nx,by omega⟩)
theorem Zcj {us:List Int} (h:Dn us):Zk us (dnT us.length):=by
 refine⟨by simp[dnT],λp hp=>?_⟩
 have e:(dnT us.length).getD p 0=if p+1<us.length then ((p+1:Nat):Int)else -1:=by simp[dnT,Yr,hp]
 rw[e]
 have np:ZbA (nth us) p:=λq hq=>by have:=ZfF h hq hp;omega
 by_cases c:p+1<us.length
 ·rw[Yc c]
  exact .inr (.inr (.inl ⟨p+1,np,⟨by omega,c,by have:=ZfF h (show p<p+1 by omega) c;omega,λs h1 h2=>by omega⟩,rfl⟩))
 ·rw[Ya c]
  exact .inl ⟨np,λr h1 h2=>by omega,rfl⟩
theorem ZeJ {R:Int->Int->Prop}{ts:List Int} (h:ts.Pairwise R) {S:List Nat} (hS:Z4 S 0 ts.length):(S.map (nth ts)).Pairwise R:=by
 rw[List.pairwise_map]
 exact hS.1.imp_of_mem λ{a b} ha hb hab=>ZfF h hab (hS.2 b hb).2
noncomputable def Plain (b:Int) (us:List Int):Prop:=b=0/\Up us\/b=1/\Dn us
theorem ZjX {ns T ts:List Int}{a b:Int} (hT:Zk ns T) (h40:ns.length<=40) (h0:0<ns.length) (ha:Plain a ns) (hb:Plain b ts):waC T ts (some (T.idxOf (-1))) 0 ts.length=if 1<ns.length/\a≠b then 0 else Zbj ts.length ns.length:=by
 have eN:=hT.1
 have key:∀S:List Nat,S.length=T.length->∀us:List Int,us=S.map (nth ts)->us.length=ns.length:=λS hS us e=>by rw[e,Yf,hS,eN]
 have ud:∀k,1<k->upT k≠dnT k:=λk hk e=>by
  have:=congrArg (λl=>l.getD 0 0) e
  simp[upT,dnT,Yr,show 0<k by omega,hk]at this
 have one:ns.length=1->upT ns.length=dnT ns.length:=λe=>by rw[e];decide
 rcases ha with⟨rfl,ha⟩|⟨rfl,ha⟩<;>rcases hb with⟨rfl,hb⟩|⟨rfl,hb⟩
 ·rw[Ya (by omega)]
  refine plain_all hT h40 h0 λS h1 h2=>?_
  have:=Zci (ZeJ hb h2)
  rw[key S h1 _ rfl,<-hT.unique (Zci ha)]at this
  exact this
 ·by_cases c:1<ns.length
  ·rw[Yc ⟨c,by omega⟩]
   refine ZfE hT h40 h0 λS h1 h2 h3=>?_
   have:=Zcj (ZeJ hb h2)
   rw[key S h1 _ rfl]at this
   exact ud _ c ((Zci ha).unique hT |>.trans (h3.unique this))
  ·rw[Ya (λz=>c z.1)]
   refine plain_all hT h40 h0 λS h1 h2=>?_
   have:=Zcj (ZeJ hb h2)
   rw[key S h1 _ rfl,<-one (by omega),<-hT.unique (Zci ha)]at this
   exact this
 ·by_cases c:1<ns.length
  ·rw[Yc ⟨c,by omega⟩]
   refine ZfE hT h40 h0 λS h1 h2 h3=>?_
   have:=Zci (ZeJ hb h2)
   rw[key S h1 _ rfl]at this
   exact ud _ c ((this.unique h3).trans (hT.unique (Zcj ha)))
  ·rw[Ya (λz=>c z.1)]
   refine plain_all hT h40 h0 λS h1 h2=>?_
   have:=Zci (ZeJ hb h2)
   rw[key S h1 _ rfl,one (by omega),<-hT.unique (Zcj ha)]at this
   exact this
 ·rw[Ya (by omega)]
  refine plain_all hT h40 h0 λS h1 h2=>?_
  have:=Zcj (ZeJ hb h2)
  rw[key S h1 _ rfl,<-hT.unique (Zcj ha)]at this
  exact this
noncomputable def Zcr:SpT:=λK mg vs H Q E=>∃(a:Addr) (ns:List Int) (k:Int),vs=[.ref a,.int k]/\SqL K H a (ns.map V.int)/\0<=k/\k<=100/\∀p H',H p=none->Zf H H'->Zu H' p->Q (.ref p) H'
noncomputable def Z5:SpT:=λK mg vs H Q E=>∃(p:Addr) (many:Int),vs=[.ref p,.int many]/\0<many/\many<=1000000001/\Zu H p/\∀d H',0<=d->d<many->Zu H' p->Exc p H H'->Q (.int d) H'
noncomputable def sp__law_row:SpT:=λK mg vs H Q E=>∃(p:Addr) (most:Int),vs=[.ref p,.int most]/\0<=most/\most<=1000/\Zu H p/\∀(r:Addr) (ns:List Int) H',H r=none->(ns.length:Int)<=most->H' r=some (.lst (ns.map V.int))->Zu H' p->Exc p H H'->Q (.ref r) H'
noncomputable def Zb1:SpT:=λK mg vs H Q E=>∃(r:Addr) (ns:List Int) (i:Nat),vs=[.ref r,.int (i:Int)]/\(SqL K H r (ns.map V.int)\/SqT K H r (ns.map V.int))/\ns.length<=1000/\i<ns.length/\∀(e:Int) H',Zv (nth ns) ns.length i e->Zf H H'->Q (.int e) H'
noncomputable def sp__law_tree:SpT:=λK mg vs H Q E=>∃(r:Addr) (ns:List Int),vs=[.ref r]/\(SqL K H r (ns.map V.int)\/SqT K H r (ns.map V.int))/\ns.length<=1000/\∀(t:Addr) (es:List Int) H',Zk ns es->Zf H H'->H' t=some (.tup (es.map V.int))->Q (.ref t) H'
noncomputable def ZaT:SpT:=λK mg vs H Q E=>∃(p r:Addr) (xs:List V),vs=[.ref p,.ref r]/\Zu H p/\r≠p/\H r=some (.lst xs)/\xs.length<=1000/\∀(u:Addr) H',H u=none->(H' u=some (.lst xs)\/H' u=some (.tup xs))->Zu H' p->Exc p H H'->Q (.ref u) H'
noncomputable def Zcs:SpT:=λK mg vs H Q E=>∃(p:Addr) (most wide:Int),vs=[.ref p,.int most,.int wide]/\1<=most/\most<=100/\0<=wide/\wide<=100/\Zu H p/\∀(t r x:Addr) (ns ts:List Int) H',H r=none->H x=none->0<ns.length->(ns.length:Int)<=most->(ts.length:Int)<=wide->H' r=some (.lst (ns.map V.int))->H' x=some (.lst (ts.map V.int))->H' t=some (.tup [.ref r,.ref x])->Zu H' p->Exc p H H'->Q (.ref t) H'
noncomputable def ZbF:SpT:=λK mg vs H Q E=>∃(many size:Nat),vs=[.int (many:Int),.int (size:Int)]/\many<=16/\size<=6/\∀(l:Addr) (rs:List (List Int)) H',H l=none->ZC H' l rs->rs.length<=65536->rs.Nodup->(∀r,r∈rs↔r.length=size/\Ris many r)->Zf H H'->Q (.ref l) H'
noncomputable def ZaA:SpT:=λK mg vs H Q E=>∃(r x:Addr) (ns ts:List Int),vs=[.ref r,.ref x]/\(SqL K H r (ns.map V.int)\/SqT K H r (ns.map V.int))/\H x=some (.lst (ts.map V.int))/\0<ns.length/\ns.length<=6/\ts.length<=16/\∀(l:Addr) (as:List Addr) (T:List Int) H',H l=none->H' l=some (.lst (as.map V.ref))->Zk ns T->(as.map V.ref).length=waC T ts (some (T.idxOf (-1))) 0 ts.length->Zf H H'->Q (.ref l) H'
noncomputable def ZbG:SpT:=λK mg vs H Q E=>∃(many size:Nat),vs=[.int (many:Int),.int (size:Int)]/\many<=16/\size<=6/\Q (.int (Zbj many size:Nat)) H
noncomputable def Zb2:SpT:=λK mg vs H Q E=>∃(p:Addr) (most:Int),vs=[.ref p,.int most]/\0<=most/\most<=16/\Zu H p/\∀(t r:Addr) (ns:List Int) (b:Int) H',H r=none->(ns.length:Int)<=most->Plain b ns->H' r=some (.lst (ns.map V.int))->H' t=some (.tup [.ref r,.int b])->Zu H' p->Exc p H H'->Q (.ref t) H'
noncomputable def Zau:SpT:=λK mg vs H Q E=>∃(p:Addr),vs=[.ref p]/\Zu H p/\∀H',Zu H' p->Exc p H H'->Q (.bl true) H'
section
variable {P:Program}{w:World}{K:PySem.W.Frag}{mg:Str->Option Value}{base:Heap}
theorem Ze7:FnScope ["row","fewest"] ["row","fewest"] (defScope ZX):=⟨rfl,rfl,rfl,by decide +kernel,rfl,by decide +kernel,by decide +kernel⟩
theorem sc_settle:FnScope ["elders","spine","place","keep"] ["elders","spine","place","keep"] (defScope s_settle):=⟨rfl,rfl,rfl,by decide +kernel,rfl,by decide +kernel,by decide +kernel⟩
theorem sc_tree_of:FnScope ["row","elders","spine","place","keep"] ["row"] (defScope s_tree_of):=⟨rfl,rfl,rfl,by decide +kernel,rfl,by decide +kernel,by decide +kernel⟩
theorem sc_young_of:FnScope ["tree","young","place","elder"] ["tree"] (defScope s_young_of):=⟨rfl,rfl,rfl,by decide +kernel,rfl,by decide +kernel,by decide +kernel⟩
theorem Zf4:FnScope ["row","text"] ["row","text"] (defScope Zao):=⟨rfl,rfl,rfl,by decide +kernel,rfl,by decide +kernel,by decide +kernel⟩
theorem Zdt:FnScope ["self","row","text"] ["self","row","text"] (defScope ZD):=⟨rfl,rfl,rfl,by decide +kernel,rfl,by decide +kernel,by decide +kernel⟩
theorem Zbk:FnScope ["self","v","a","b","fit"] ["self","v","a","b"] (defScope ZY):=⟨rfl,rfl,rfl,by decide +kernel,rfl,by decide +kernel,by decide +kernel⟩
theorem ZcO:FnScope ["self","v","a","b","i","elder"] ["self","v","a","b","i"] (defScope ZZ):=⟨rfl,rfl,rfl,by decide +kernel,rfl,by decide +kernel,by decide +kernel⟩
theorem Z6:FnScope ["self","v","a","b","i","ahead","behind"] ["self","v","a","b","i"] (defScope ZH):=⟨rfl,rfl,rfl,by decide +kernel,rfl,by decide +kernel,by decide +kernel⟩
theorem Zdz:FnScope ["row","text","holding"] ["row","text"] (defScope Zap):=⟨rfl,rfl,rfl,by decide +kernel,rfl,by decide +kernel,by decide +kernel⟩
theorem ZN:FnScope ["script","k","cell","seed","number","turn"] ["script","k"] (defScope ZaH):=⟨rfl,rfl,rfl,by decide +kernel,rfl,by decide +kernel,by decide +kernel⟩
theorem Zd9:FnScope ["pot","many","digit"] ["pot","many"] (defScope ZaI):=⟨rfl,rfl,rfl,by decide +kernel,rfl,by decide +kernel,by decide +kernel⟩
theorem Zf5:FnScope ["thing"] ["thing"] (defScope Zaq):=⟨rfl,rfl,rfl,by decide +kernel,rfl,by decide +kernel,by decide +kernel⟩
theorem Zaj:FnScope ["pot","most","many","kind","turn","row","k"] ["pot","most"] (defScope Za4):=⟨rfl,rfl,rfl,by decide +kernel,rfl,by decide +kernel,by decide +kernel⟩
theorem Zb3:FnScope ["row","place","earlier","later"] ["row","place"] (defScope Zar):=⟨rfl,rfl,rfl,by decide +kernel,rfl,by decide +kernel,by decide +kernel⟩
theorem sc__law_tree:FnScope ["row"] ["row"] (defScope s__law_tree):=⟨rfl,rfl,rfl,by decide +kernel,rfl,by decide +kernel,by decide +kernel⟩
theorem ZfG:FnScope ["pot","some"] ["pot","some"] (defScope Zaa):=⟨rfl,rfl,rfl,by decide +kernel,rfl,by decide +kernel,by decide +kernel⟩
theorem Zbp:FnScope ["pot","most","wide","row","text"] ["pot","most","wide"] (defScope ZaJ):=⟨rfl,rfl,rfl,by decide +kernel,rfl,by decide +kernel,by decide +kernel⟩
theorem Z1:FnScope ["many","size","told","turn","longer","one"] ["many","size"] (defScope Zab):=⟨rfl,rfl,rfl,by decide +kernel,rfl,by decide +kernel,by decide +kernel⟩
theorem ZcP:FnScope ["row","text","tree"] ["row","text"] (defScope Z0):=⟨rfl,rfl,rfl,by decide +kernel,rfl,by decide +kernel,by decide +kernel⟩
theorem ZaU:FnScope ["many","size","number","k"] ["many","size"] (defScope Zac):=⟨rfl,rfl,rfl,by decide +kernel,rfl,by decide +kernel,by decide +kernel⟩
theorem Zb4:FnScope ["pot","most","many","kind"] ["pot","most"] (defScope Zas):=⟨rfl,rfl,rfl,by decide +kernel,rfl,by decide +kernel,by decide +kernel⟩
theorem Zav:FnScope ["pot","row","text"] ["pot"] (defScope ZE):=⟨rfl,rfl,rfl,by decide +kernel,rfl,by decide +kernel,by decide +kernel⟩
theorem sc_law:FnScope ["script","k","pot","row","text","handed","told","one","other","due"] ["script"] (defScope s_law):=⟨rfl,rfl,rfl,by decide +kernel,rfl,by decide +kernel,by decide +kernel⟩
theorem Zhc {f:Addr}{fd:FuncData} (F:Fun K "_law_deal" "_law_deal" ZaH f fd) (T:Txt K mg):FnOk P w K mg base (CXE P w) 1 f fd ["script","k"] (Zcr K mg):=by
 refine F.okX ZN (λvs H Q E h=>?_) (λcdv A outer s H vs Q E hr h=>?_)
 ·obtain⟨a,ns,k,rfl,_⟩:=h;rfl
 obtain⟨a,ns,k,rfl,hS,h0,h1,k1⟩:=h
 refine⟨_,(Ze (Zt (i:=2) ZN.nd rfl (Or.inl rfl) Zd)
   (Ze (ZR (Zn Zgm (pv 1) (Zm (Zq (K:=K) rfl) rfl T.b_len Yv (Za (pv 0) Zb)) (Zp _)) (Zg (Zt (i:=2) ZN.nd rfl (Or.inl rfl) (Zl ZcX (ZF ZQ (pv 0) (pv 1) (λ_ _=>rfl)) (Zl ZaN (Zl ZaN (Zl ZaN (Zl ZdG Zd Zd) (Zl ZdG Zd Zd)) (Zl ZdG Zd Zd)) (Zl ZdG Zd Zd))))) ZA)
   (Ze (ZR (Zn Zks (pv 2) (Zl ZdG Zd Zd) (Zp _)) (Zg (Zy (ZaL (Za (Zl ZaZ (pv 2) (Zl ZdG Zd Zd)) Zb)))) ZA)
   (Ze (Zt (i:=3) ZN.nd rfl (Or.inl rfl) (Zl Zad (Zl Zad (Zl ZcX (pv 2) Zd) (Zl ZaN Zd (pv 1))) Zd))
   (Ze (Zt (i:=4) ZN.nd rfl (Or.inl rfl) Zd)
   (Ze (Zco (ZcW PassesOwn.never rfl (ZI rfl T.b_range (Za Zd Zb)) (Zo (i:=5) ZN.nd rfl (Or.inl rfl)) (Ze (Zt (i:=3) ZN.nd rfl (Or.inl rfl) (Zl ZcX (Zl Zad (Zl ZaN (pv 3) Zd) Zd) Zd))
   (Zg (Zt (i:=4) ZN.nd rfl (Or.inl rfl) (Zl Zad (Zl ZaN (pv 4) Zd) (Zl ZcX (Zl Zd6 (Zl ZcX (Zl ZaN (pv 3) (pv 3)) Zd) Zd) Zd)))))))
   (Zg (Zy (ZaL (Za (pv 4) Zb)))))))))),?_⟩
 simp only[tIfS,tNot,tTest,rI0,rI,rU,tVar,tC,tB,tIf,tAndV,tNotV,tCall,tCons,tNil,tAsg,tSeq,tRet,tNext,tOp,tUn,tAnd,tOr,tDrop,gName,gSub,tAug,tCB,tSl,tRaise,tLst,tTup,L2.start,tYes,gTup,gCons,gNil,iniC,Option.join_some,Option.join_none,rEq,rNe,Zd1,Zi0,Zi1,Zi2,Zi3,Zi4,tBM,Bool.true_eq_false,YB,List.map_nil,List.cons_append,List.nil_append,Yn,List.length_nil,List.replicate,List.append_nil,List.set_cons_zero,List.set_cons_succ,List.getElem?_cons_zero,List.getElem?_cons_succ,Option.some.injEq,V.int.injEq,V.bl.injEq,V.ref.injEq,List.cons.injEq,and_true,true_and,exists_eq_left,exists_eq_left',exists_and_left,exists_eq,decide_eq_true_eq,Bool.not_eq_true',decide_eq_false_iff_not,cxK,and_assoc,Bool.false_eq_true,↓reduceIte,ZiZ,Zgt,ZhC,iRng1,iRng2,iList,iTup,rIxL,rIxT,rSetL,rCat,rIsi,rSum,tDelT,rIntB,tPar,rInsert,rIndex,rLen,rLof,rTof,rTofF,tBMH,rIndexT,rEqD,iEnumT,rIxQ,rSlL,tPart,tNoPart,tSl,ipI,rAppend,rRep,Zi5,ZkI,rExtend,V.str.injEq,tFldC,sFldC,tMeth,tMake,tDGet,sDPut,tDNotIn,rCatU,tDNewT,gLst,rEqN,tOrT,rIndexT,rTofF,tBMH,cp18,cp60,qm1,qm2,qm3,qm4]
 have fin:∀g:Int,0<=g->∀p,H p=none->Q (V.ref p) (upd H p (.lst [V.int g])):=λg hg p hp=>k1 p _ hp ((Zf.refl H).upd hp) ⟨_,Zc,hg⟩
 refine⟨_,.inl hS,Z3 (λhk=>?_) (λhk=>?_)⟩
 case' refine_1 =>
  obtain⟨j,hj0⟩:=Y4 h0
  have hj:j<(ns.map V.int).length:=by omega
  refine⟨_,hS,_,Zg3 hj0 hj,ns[j]'(by simpa using hj),by simp,Z3 (λc=>⟨by decide,fin _ (Int.sub_nonneg.mpr c)⟩) (λ_=>⟨by decide,Zgu (by decide) (by decide),by decide,by decide,?_⟩)⟩
 case' refine_2 =>
  refine Z3 (λz=>absurd z (by decide)) (λ_=>⟨by decide,Zgu (by decide) (by decide),by decide,by decide,?_⟩)
 all_goals
  refine Zbw (λi σ H'=>∃v2 g o v5,σ=[some (.ref a),some (.int k),v2,some (.int o),some (.int g),v5]/\0<=g/\H'=H) ⟨_,0,_,none,rfl,Int.le_refl _,rfl⟩ ?_ ?_
  ·rintro i σ H' hi ⟨v2,g,o,v5,rfl,hg,rfl⟩
   walk_at "rd"
   have b1:=Int.emod_nonneg (o*48271+12345) (b:=2147483647) (by decide)
   have b2:=Int.emod_lt_of_pos (o*48271+12345) (b:=2147483647) (by decide)
   refine⟨mul_r (by decide) (by decide),by decide,mul_r (by decide) (by decide),Zgu (by omega) (by omega),by decide,⟨by decide,by decide⟩,by decide,?_⟩
   have b3:=Int.emod_nonneg ((o*48271+12345) % 2147483647*((o*48271+12345) % 2147483647) % 2147483629 / 64) (b:=16777216) (by decide)
   have b4:=Int.mul_nonneg hg (show(0:Int)<=16777216 by decide)
   omega
  ·rintro σ H' ⟨v2,g,o,v5,rfl,hg,rfl⟩
   walk_at "rd"
   exact⟨by decide,fin g hg⟩
theorem Zhd {f:Addr}{fd:FuncData} (F:Fun K "_law_take" "_law_take" ZaI f fd) (T:Txt K mg):FnOk P w K mg base (CXE P w) 1 f fd ["pot","many"] (Z5 K mg):=by
 refine F.okX Zd9 (λvs H Q E h=>?_) (λcdv A outer s H vs Q E hr h=>?_)
 ·obtain⟨p,many,rfl,_⟩:=h;rfl
 obtain⟨p,many,rfl,h0,h1,⟨x,hp,hx⟩,k1⟩:=h
 refine⟨_,(Ze (Zt (i:=2) Zd9.nd rfl (Or.inl rfl) (Zl ZcX (ZF ZQ (pv 0) Zd (λ_ _=>rfl)) (pv 1)))
   (Ze (ZbY (Zl Zd6 (ZF ZQ (pv 0) Zd (λ_ _=>rfl)) (pv 1)) (Zeo (pv 0) Zd set_list (λ_=>rfl)))
   (Zg (Zy (pv 2))))),?_⟩
 walk_at "rd"
 refine⟨_,SqL.of hp,_,rfl,_,rfl,h0,?_⟩
 refine⟨_,SqL.of hp,_,rfl,_,rfl,⟨h0,by omega⟩,_,hp,_,rfl,?_⟩
 exact k1 _ _ (Int.emod_nonneg _ (by omega)) (Int.emod_lt_of_pos _ h0) ⟨_,Zc,Int.ediv_nonneg hx (by omega)⟩ Exc.upd
theorem ZhU {f:Addr}{fd:FuncData} (F:Fun K "_law_row" "_law_row" Za4 f fd) (Zj:Callee P w K mg base "_law_take" 1 ["pot","many"] (Z5 K mg)) (T:Txt K mg):FnOk P w K mg base (CXE P w) 2 f fd ["pot","most"] (sp__law_row K mg):=by
 refine F.okX Zaj (λvs H Q E h=>?_) (λcdv A outer s H vs Q E hr h=>?_)
 ·obtain⟨p,most,rfl,_⟩:=h;rfl
 obtain⟨p,most,rfl,h0,h1,hP,k1⟩:=h
 refine⟨_,(Ze (Zt (i:=2) Zaj.nd rfl (Or.inl rfl) (Zi Zj (hr.mono (by decide)) rfl Zr (Za (pv 0) (Za (Zl Zad (pv 1) Zd) Zb))))
   (Ze (Zt (i:=3) Zaj.nd rfl (Or.inl rfl) (Zi Zj (hr.mono (by decide)) rfl Zr (Za (pv 0) (Za Zd Zb))))
   (Ze (Zt (i:=4) Zaj.nd rfl (Or.inl rfl) (Zl Zad Zd (Zi Zj (hr.mono (by decide)) rfl Zr (Za (pv 0) (Za Zd Zb)))))
   (Ze (Zt (i:=5) Zaj.nd rfl (Or.inr rfl) (ZaL Zb))
   (Ze (Zco (ZcW PassesOwn.never rfl (ZI rfl T.b_range (Za (pv 2) Zb)) (Zo (i:=6) Zaj.nd rfl (Or.inl rfl)) (Zg (ZR (Zn Zgm (pv 3) Zd (Zp _)) (Zg (ZaK (ZdZ PySem.F.plainAttrs_list PySem.F.slot_list_append PySem.F.type_list_append Zbx (pv 5) (Za (Zi Zj (hr.mono (by decide)) rfl Zr (Za (pv 0) (Za (pv 4) Zb))) Zb)))) (Zg (ZR (Zn Zdx (pv 3) Zd (Zp _)) (Zg (ZaK (ZdZ PySem.F.plainAttrs_list PySem.F.slot_list_insert PySem.F.type_list_insert ZjH (pv 5) (Za (Zi Zj (hr.mono (by decide)) rfl Zr (Za (pv 0) (Za (Zl Zad (pv 6) Zd) Zb))) (Za (pv 6) Zb))))) (Zg (ZR (Zn Zdx (pv 3) Zd (Zp _)) (Zg (ZaK (ZdZ PySem.F.plainAttrs_list PySem.F.slot_list_append PySem.F.type_list_append Zbx (pv 5) (Za (Zl ZaZ (Zl ZcX (pv 6) (pv 4)) (Zl Zd6 (pv 6) (pv 4))) Zb)))) (Zg (ZR (Zn Zdx (pv 3) Zd (Zp _)) (Zg (ZaK (ZdZ PySem.F.plainAttrs_list PySem.F.slot_list_append PySem.F.type_list_append Zbx (pv 5) (Za (ZF ZQ (ZaL (Za (pv 6) (Za (ZcN Zbh (pv 6)) Zb))) (Zl ZcX (pv 4) Zd) (λ_ _=>rfl)) Zb)))) (Zg (ZR (Zn Zdx (pv 3) Zd (Zp _)) (Zg (ZaK (ZdZ PySem.F.plainAttrs_list PySem.F.slot_list_append PySem.F.type_list_append Zbx (pv 5) (Za (Zl ZaN (Zl ZaZ (Zi Zj (hr.mono (by decide)) rfl Zr (Za (pv 0) (Za Zd Zb))) Zd) (Zl ZdG Zd Zd)) Zb)))) (Zg (ZaK (ZdZ PySem.F.plainAttrs_list PySem.F.slot_list_append PySem.F.type_list_append Zbx (pv 5) (Za (Zl ZaZ (Zi Zj (hr.mono (by decide)) rfl Zr (Za (pv 0) (Za Zd Zb))) Zd) Zb))))))))))))))))
   (Ze (ZR (Zn Zdx (pv 3) Zd (Zp _)) (Zg (Zt (i:=5) Zaj.nd rfl (Or.inr rfl) (ZaQ ["k","row"] [none,some 5] rfl rfl rfl (ZI rfl T.b_range (Za (pv 2) Zb)) (λ_ _ _ _ _=>(Zo (i:=0) (show(["k","row"]:List Str).Nodup from by decide +kernel) rfl (Or.inl rfl))) (λ_ _ _ _ _=>Zax) (λ_ _ _ _ _=>(pe_bmK (K:=K) rfl PySem.F.plainAttrs_list PySem.F.slot_list_index PySem.F.type_list_index (ZkL (K:=K) rfl) (pv 1) (Za (pv 0) Zb))) ZG))) ZA)
   (Zg (Zy (pv 5))))))))),?_⟩
 refine Zay (fun σ Hx=>∃m:Int,σ=[some (.ref p),some (.int most),some (.int m),none,none,none,none]/\0<=m/\m<=most/\Zu Hx p/\Exc p H Hx) (λR hR=>?_) ?_
 ·walk_at "rd"
  exact⟨p,_,rfl,by omega,by omega,hP,λd H1 d0 d1 P1 e1=>hR _ _ ⟨d,rfl,d0,by omega,P1,e1⟩⟩
 rintro σ H1 ⟨many,rfl,m0,m1,P1,e1⟩
 refine Zay (fun σ Hx=>∃k:Int,σ=[some (.ref p),some (.int most),some (.int many),some (.int k),none,none,none]/\0<=k/\k<8/\Zu Hx p/\Exc p H Hx) (λR hR=>?_) ?_
 ·walk_at "rd"
  exact⟨p,_,rfl,by decide,by decide,P1,λd H2 d0 d1 P2 e2=>hR _ _ ⟨d,rfl,d0,d1,P2,e1.trans e2⟩⟩
 clear P1 e1 H1
 rintro σ H1 ⟨kd,rfl,d0,d1,P1,e1⟩
 refine Zay (fun σ Hx=>∃t:Int,σ=[some (.ref p),some (.int most),some (.int many),some (.int kd),some (.int t),none,none]/\2<=t/\t<6/\Zu Hx p/\Exc p H Hx) (λR hR=>?_) ?_
 ·walk_at "rd"
  exact⟨p,_,rfl,by decide,by decide,P1,λd H2 d0 d1 P2 e2=>⟨d,rfl,hR _ _ ⟨_,rfl,by omega,by omega,P2,e1.trans e2⟩⟩⟩
 clear P1 e1 H1
 rintro σ H1 ⟨tn,rfl,t0,t1,P1,e1⟩
 refine Zay (fun σ Hx=>∃q:Addr,σ=[some (.ref p),some (.int most),some (.int many),some (.int kd),some (.int tn),some (.ref q),none]/\H q=none/\q≠p/\Hx q=some (.lst [])/\Zu Hx p/\Exc p H Hx) (λR hR=>?_) ?_
 ·walk_at "rd"
  exact⟨Yu _,λq hq=>hR _ _ ⟨q,rfl,e1.free (P1.ne hq) hq,P1.ne hq,Zc,P1.upd hq,e1.same ((Zf.refl H1).upd hq)⟩⟩
 clear P1 e1 H1
 rintro σ H1 ⟨q,rfl,zq,nqp,hq1,P1,e1⟩
 refine Zay (fun σ Hx=>∃(ns:List Int) (v6:Option V),σ=[some (.ref p),some (.int most),some (.int many),some (.int kd),some (.int tn),some (.ref q),v6]/\(ns.length:Int)=many/\(kd=3->∀j:Nat,(j:Int)<many->(j:Int)∈ns)/\Hx q=some (.lst (ns.map V.int))/\Zu Hx p/\Exc p H Hx) (λR hR=>?_) ?_
 ·walk_at "rd"
  refine⟨by omega,by omega,?_⟩
  refine Zbw (λi σ Hx=>∃(ns:List Int) (v6:Option V),σ=[some (.ref p),some (.int most),some (.int many),some (.int kd),some (.int tn),some (.ref q),v6]/\ns.length=i/\(kd=3->∀j:Nat,j<i->(j:Int)∈ns)/\Hx q=some (.lst (ns.map V.int))/\Zu Hx p/\Exc p H Hx) ⟨[],none,rfl,rfl,(λ_ j hj=>absurd hj (by omega)),hq1,P1,e1⟩ ?_ ?_
  ·rintro i σ Hx hi ⟨ns,v6,rfl,hl,hin,hqx,Px,ex⟩
   have hi':i<1000:=by omega
   have hb:(ns.map V.int).length<sizeLine:=Yw (show _<=1000 by rw[Yf];omega) (by decide)
   have app:kd≠3->∀(y:Int) (Hy:Hp),Hy q=some (.lst (ns.map V.int))->Zu Hy p->Exc p H Hy->∃x_1,Hy q=some (HO.lst x_1)/\x_1.length<sizeLine/\∃ns':List Int,ns'.length=i+1/\(kd=3->∀(j:Nat),j<i+1->(j:Int)∈ns')/\upd Hy q (HO.lst (x_1++[V.int y])) q=some (HO.lst (List.map V.int ns'))/\Zu (upd Hy q (HO.lst (x_1++[V.int y]))) p/\Exc p H (upd Hy q (HO.lst (x_1++[V.int y]))):=λn3 y Hy hy Py ey =>
    ⟨_,hy,hb,ns++[y],by simp[hl],(λz=>absurd z n3),by rw[Zc];simp,Py.Zg4 nqp,ey.Zg4 zq⟩
   walk_at "rd"
   refine Z3 (λk3=>⟨ZaO hqx,p,_,rfl,by omega,by omega,Px,λd H2 d0 d1 P2 e2=>app (by omega) d H2 (e2 _ _ nqp hqx) P2 (ex.trans e2)⟩) λk3=>?_
   refine Z3 (λk4=>⟨ZaO hqx,p,_,rfl,by omega,by omega,Px,λd H2 d0 d1 P2 e2=>?_⟩) λk4=>?_
   ·refine⟨_,d,rfl,e2 _ _ nqp hqx,d0,by omega,hb,ns.take d.toNat++(0+(i:Int))::ns.drop d.toNat,by simp;omega,λ_ j hj=>?_,by rw[Zc];simp,P2.Zg4 nqp,(ex.trans e2).Zg4 zq⟩
    by_cases ej:j=i
    ·rw[ej];simp
    ·have hm:=hin k4 j (by omega)
     rw[<-Y8 d.toNat ns]at hm
     rcases Yq.mp hm with z|z
     ·exact YJ _ z
     ·exact Yt _ (YN _ z)
   refine Z3 (λk5=>⟨ZaO hqx,by omega,⟨by omega,by omega⟩,app k4 _ Hx hqx Px ex⟩) λk5=>?_
   refine Z3 (λk6=>⟨ZaO hqx,by decide,λu hu=>⟨by decide,?_⟩⟩) λk6=>?_
   ·obtain⟨v,hv,y,rfl⟩:=Zmx (xs:=[V.int (0+(i:Int)),V.int (-(0+(i:Int)))]) (i:=tn % 2) (λv=>∃y:Int,v=V.int y) (by omega) (by show _<((2:Nat):Int);omega) (by
     intro x hx
     simp only[Yl,List.not_mem_nil,or_false]at hx
     rcases hx with rfl|rfl<;>exact⟨_,rfl⟩)
    have g:=(Zf.refl Hx).upd (o:=.lst [V.int (0+(i:Int)),V.int (-(0+(i:Int)))]) hu
    exact⟨_,SqL.of Zc,_,hv,app k4 y _ (g _ _ hqx) (Px.same g) (ex.same g)⟩
   exact Z3 (λk7=>⟨ZaO hqx,p,_,rfl,by decide,by decide,Px,λd H2 d0 d1 P2 e2=>⟨d,rfl,cp59,Zgu (by omega) (by omega),app k4 _ H2 (e2 _ _ nqp hqx) P2 (ex.trans e2)⟩⟩) λk7=>⟨ZaO hqx,p,_,rfl,by decide,by decide,Px,λd H2 d0 d1 P2 e2=>⟨d,rfl,app k4 _ H2 (e2 _ _ nqp hqx) P2 (ex.trans e2)⟩⟩
  ·rintro σ Hx ⟨ns,v6,rfl,hl,hin,hqx,Px,ex⟩
   exact hR _ _ ⟨ns,v6,rfl,by omega,(λz j hj=>hin z j (by omega)),hqx,Px,ex⟩
 clear P1 e1 hq1 H1
 rintro σ H1 ⟨ns,v6,rfl,hl,hin,hq1,P1,e1⟩
 refine Zay (fun σ Hx=>∃(q:Addr) (ns:List Int) (v6:Option V),σ=[some (.ref p),some (.int most),some (.int many),some (.int kd),some (.int tn),some (.ref q),v6]/\H q=none/\(ns.length:Int)=many/\Hx q=some (.lst (ns.map V.int))/\Zu Hx p/\Exc p H Hx) (λR hR=>?_) ?_
 ·walk_at "rd"
  refine Z3 (λk3=>⟨by omega,by omega,?_⟩) λk3=>hR _ _ ⟨q,ns,v6,rfl,zq,hl,hq1,P1,e1⟩
  refine comp_map (n:=many.toNat) (λj=>V.int ((ns.idxOf ((j:Nat):Int):Nat):Int)) (Yw (show _<=1000 by omega) (by decide)) (λj Hx s hj=>hj) (λHx s=>Yd _) ?_ ?_
  ·rintro j x Hx Hy hj s ⟨rfl,rfl⟩
   have e0:((0:Int)+(j:Int))=(j:Int):=by omega
   rw[e0]
   walk_at "rd"
   exact⟨ZaO (s _ _ hq1),_,SqL.of (s _ _ hq1),by omega,hin k3 j (by omega),CW.next hj rfl s⟩
  ·intro l Hx s hlx
   have em:(List.range many.toNat).map (λj=>V.int ((ns.idxOf ((j:Nat):Int):Nat):Int))=((List.range many.toNat).map λj=>((ns.idxOf ((j:Nat):Int):Nat):Int)).map V.int:=by rw[YV];rfl
   rw[em]
   exact hR _ _ ⟨l,_,v6,rfl,e1.free ((P1.same s).ne hlx) (s.free hlx),by simp;omega,Zc,(P1.same s).upd hlx,(e1.same s).same ((Zf.refl Hx).upd hlx)⟩
 rintro σ H2 ⟨q2,ms,v6',rfl,zq2,hl2,hq2,P2,e2⟩
 walk_at "rd"
 exact k1 q2 ms _ zq2 (by omega) hq2 P2 e2
theorem Zf6 {f:Addr}{fd:FuncData} (F:Fun K "_law_elder" "_law_elder" Zar f fd) (T:Txt K mg):FnOk P w K mg base (CXE P w) 1 f fd ["row","place"] (Zb1 K mg):=by
 refine F.okX Zb3 (λvs H Q E h=>?_) (λcdv A outer s H vs Q E hr h=>?_)
 ·obtain⟨r,ns,i,rfl,_⟩:=h;rfl
 obtain⟨r,ns,i,rfl,hr1,hn,hi,k1⟩:=h
 refine⟨_,(Ze (Zc0 (i:=2) ["other","row","place"] [none,some 0,some 1] Zb3.nd rfl (Or.inl rfl) rfl rfl rfl (ZI rfl T.b_range (Za (pv 1) Zb)) (λ_ _ _ _ _=>(Zo (i:=0) (show(["other","row","place"]:List Str).Nodup from by decide +kernel) rfl (Or.inl rfl))) (λ_ _ _ _ _=>Zd0 (Zn op_le (ZF (Ze3 (K:=K) rfl) (pv 1) (pv 0) (λ_ _=>rfl)) (ZF (Ze3 (K:=K) rfl) (pv 1) (pv 2) (λ_ _=>rfl)) (Zp _))) (λ_ _ _ _ _=>(pv 0)) ZG)
   (Ze (Zc0 (i:=3) ["other","row","place"] [none,some 0,some 1] Zb3.nd rfl (Or.inl rfl) rfl rfl rfl (Zep rfl T.b_range (Za (Zl Zad (pv 1) Zd) (Za (Zm (Zq (K:=K) rfl) rfl T.b_len Yv (Za (pv 0) Zb)) Zb))) (λ_ _ _ _ _=>(Zo (i:=0) (show(["other","row","place"]:List Str).Nodup from by decide +kernel) rfl (Or.inl rfl))) (λ_ _ _ _ _=>Zd0 (Zn Zgm (ZF (Ze3 (K:=K) rfl) (pv 1) (pv 0) (λ_ _=>rfl)) (ZF (Ze3 (K:=K) rfl) (pv 1) (pv 2) (λ_ _=>rfl)) (Zp _))) (λ_ _ _ _ _=>(pv 0)) ZG)
   (Ze (ZR (PW.pt (ZiP (Zn (Ziu (K:=K) rfl hr) (pv 2) (ZaL Zb) (Zp _)) (ZgP (Zn (Ziu (K:=K) rfl hr) (pv 3) (ZaL Zb) (Zp _))))) (Zg (Zy (ZF ZQ (Zl ZdH (Zl ZdH (Zbf ZbR (pv 2) (ZbQ (ZcN Zbh Zd)) ZbP) (Zbf ZbR (pv 3) ZbP (ZbQ Zd))) (ZaL (Za (ZcN Zbh Zd) Zb))) Zd (λ_ _=>rfl)))) ZA)
   (Ze (ZR (Zn ZcY (ZF (Ze3 (K:=K) rfl) (pv 0) (ZF ZQ (pv 2) (ZcN Zbh Zd) (λ_ _=>rfl)) (λ_ _=>rfl)) (ZF (Ze3 (K:=K) rfl) (pv 0) (ZF ZQ (pv 3) Zd (λ_ _=>rfl)) (λ_ _=>rfl)) (Zp _)) (Zg (Zy (ZF ZQ (pv 2) (ZcN Zbh Zd) (λ_ _=>rfl)))) ZA)
   (Zg (Zy (ZF ZQ (pv 3) Zd (λ_ _=>rfl)))))))),?_⟩
 have eL:(ns.map V.int).length=ns.length:=Yf ..
 have EE:=ZhH (f:=nth ns) hi
 generalize hA:((List.range i).filter λq=>decide (nth ns q<=nth ns i))=A at EE
 generalize hB:((List.range (ns.length-(i+1))).filter λj=>decide (nth ns (i+1+j)<nth ns i))=B at EE
 have hqa:∀q∈A,q<ns.length:=λq hq=>by
  rw[<-hA]at hq
  have:=YC.mp (YO.mp hq).1;omega
 have hqb:∀j∈B,i+1+j<ns.length:=λj hq=>by
  rw[<-hB]at hq
  have:=YC.mp (YO.mp hq).1;omega
 refine Zay (fun σ Hz=>∃a,σ=[some (.ref r),some (.int (i:Int)),some (.ref a),none]/\Zf H Hz/\Hz a=some (.lst (Zz A))) (λR hR=>?_) ?_
 ·walk_at "rd"
  refine⟨by omega,by omega,?_⟩
  have e1:((i:Int)).toNat=i:=by omega
  rw[e1]
  refine Zex (n:=i) (λq=>decide (nth ns q<=nth ns i)) (λq=>V.int ((q:Nat):Int)) (Yw (show _<=1000 by omega) (by decide)) (λj Hx s hj=>hj) (λHx s=>Yd _) ?_ ?_
  ·rintro j x Hx Hz hj s ⟨rfl,rfl⟩
   have e0:((0:Int)+(j:Int))=(j:Int):=by omega
   rw[e0]
   walk_at "rd"
   exact⟨_,s.q hr1,_,Za1 (by omega),_,s.q hr1,_,Za1 (by omega),_,rfl,_,rfl,Z3 (λh=>CF.take hj (YL h) rfl s) (λh=>CF.skip hj (YI h) s)⟩
  ·intro l1 H1 s1 hl1
   exact hR _ _ ⟨l1,rfl,s1.ZbO hl1,by rw[Zc,hA];rfl⟩
 rintro σ Hx ⟨a,rfl,sx,hxa⟩
 refine Zay (fun σ Hy=>∃b,σ=[some (.ref r),some (.int (i:Int)),some (.ref a),some (.ref b)]/\Zf H Hy/\Hy a=some (.lst (Zz A))/\Hy b=some (.lst (Zz (B.map λj=>i+1+j)))) (λR hR=>?_) ?_
 ·walk_at "rd"
  refine⟨_,(sx.q hr1),by omega,by omega,by omega,by rw[eL];omega,?_⟩
  have e1:((((ns.map V.int).length:Nat):Int)-((i:Int)+1)).toNat=ns.length-(i+1):=by rw[eL];omega
  rw[e1]
  refine Zex (n:=ns.length-(i+1)) (λq=>decide (nth ns (i+1+q)<nth ns i)) (λq=>V.int ((i+1+q:Nat):Int)) (Yw (show _<=1000 by omega) (by decide)) (λj Hx s hj=>hj) (λHx s=>Yd _) ?_ ?_
  ·rintro j x Hy Hz hj s ⟨rfl,rfl⟩
   have e0:((i:Int)+1+(j:Int))=((i+1+j:Nat):Int):=by omega
   rw[e0]
   walk_at "rd"
   exact⟨_,(sx.trans s).q hr1,_,Za1 (by omega),_,(sx.trans s).q hr1,_,Za1 (by omega),_,rfl,_,rfl,Z3 (λh=>CF.take hj (YL h) rfl s) (λh=>CF.skip hj (YI h) s)⟩
  ·intro l1 H1 s1 hl1
   exact hR _ _ ⟨l1,rfl,(sx.trans s1).ZbO hl1,(s1.ZbO hl1) _ _ hxa,by rw[Zc,hB];simp[Zz,Function.comp_def]⟩
 clear sx hxa Hx
 rintro σ Hx ⟨b,rfl,sx,hxa,hxb⟩
 have ka:Zcl (Zz A) (some (-1)) none=Zz (A.drop (A.length-1)):=by rw[ZkV,ZT];simp[Zz,List.map_drop]
 have kb:Zcl (Zz (B.map λj=>i+1+j)) none (some 1)=Zz ((B.take 1).map λj=>i+1+j):=by rw[Zmy];simp[Zz,List.map_take]
 have lA:A.length<=1000:=by rw[<-hA];exact Yh (Y2 _ _) (by simp;omega)
 refine Zay (fun σ Hy=>σ=[some (.ref r),some (.int (i:Int)),some (.ref a),some (.ref b)]/\Zf Hx Hy/\A≠[]/\B≠[]) (λR hR=>?_) ?_
 ·refine ifR (λH1=>Zf Hx H1/\(A=[]\/B=[])) (λH1=>Zf Hx H1/\A≠[]/\B≠[]) ?_ ?_ ?_
  ·rintro H1 ⟨s1,hc⟩
   have key:∃e:Int,atI (Zz (A.drop (A.length-1))++Zz ((B.take 1).map λj=>i+1+j)++[V.int (-1)]) 0=some (V.int e)/\Zv (nth ns) ns.length i e:=by
    rcases hc with rfl|rfl
    ·cases B with
     |nil=>exact⟨-1,rfl,by simpa using EE⟩
     |cons j B'=>exact⟨((i+1+j:Nat):Int),rfl,by simpa using EE⟩
    ·rcases snoc_cases A with rfl|⟨ys,y,rfl⟩
     ·exact⟨-1,rfl,by simpa using EE⟩
     ·refine⟨(y:Int),?_,by simpa using EE⟩
      have:(ys++[y]).drop ((ys++[y]).length-1)=[y]:=by simp
      rw[this];rfl
   obtain⟨e,he,hE⟩:=key
   have m1:=s1 _ _ hxa
   have m2:=s1 _ _ hxb
   walk_at "rd"
   refine⟨_,SqL.of m1,λc1 z1=>?_⟩
   rw[ka]
   have u1:=(Zf.refl H1).upd (o:=.lst (Zz (A.drop (A.length-1)))) z1
   refine⟨_,SqL.of (u1 _ _ m2),λc2 z2=>?_⟩
   rw[kb]
   have u2:=(Zf.refl _).upd (o:=.lst (Zz ((B.take 1).map λj=>i+1+j))) z2
   refine⟨_,u2 _ _ Zc,_,Zc,Yh (show _<=1001 by rw[ZT,ZT];simp;omega) (by decide),λc3 z3=>⟨by decide,λc4 z4=>?_⟩⟩
   have u4:=(Zf.refl _).upd (o:=.lst [V.int (-1)]) z4
   refine⟨_,u4 _ _ Zc,_,Zc,Yh (show _<=1003 by rw[Yy,ZT,ZT];simp;omega) (by decide),λc5 z5=>⟨_,SqL.of Zc,_,he,k1 e _ hE (((((((sx.trans s1).trans u1).trans u2).ZbO z3).trans u4).ZbO z5))⟩⟩
  ·rintro H1 ⟨s1,hc⟩
   walk_at "rd"
   exact hR _ _ ⟨rfl,s1,hc⟩
  ·intro B0 hT hU
   walk_at "rd"
   refine⟨Yu _,λc hc=>?_⟩
   have u1:=(Zf.refl Hx).upd (o:=.lst []) hc
   refine⟨_,Zja (u1 _ _ hxa) Zc,?_⟩
   by_cases zA:A=[]
   ·exact Z3 (λ_=>hT _ ⟨u1,.inl zA⟩) λz=>absurd (YL zA) z
   refine Z3 (λz=>absurd (of_decide_eq_true z) zA) λ_=>⟨Yu _,λd hd=>?_⟩
   have u2:=u1.ZbO (o:=.lst []) hd
   refine⟨_,Zja (u2 _ _ hxb) Zc,?_⟩
   by_cases zB:B=[]
   ·have:decide (B.map (λj=>i+1+j)=[])=true:=YL (by rw[zB];rfl)
    rw[this];exact hT _ ⟨u2,.inr zB⟩
   ·have:decide (B.map (λj=>i+1+j)=[])=false:=YI (by simpa using zB)
    rw[this];exact hU _ ⟨u2,zA,zB⟩
 rintro σ Hy ⟨rfl,sy,nA,nB⟩
 replace hxa:=sy _ _ hxa
 replace hxb:=sy _ _ hxb
 replace sx:=sx.trans sy
 rcases snoc_cases A with rfl|⟨ys,y,rfl⟩
 ·exact absurd rfl nA
 cases B with
 |nil=>exact absurd rfl nB
 |cons j B' =>
  have hy:y<ns.length:=hqa y (by simp)
  have hj:i+1+j<ns.length:=hqb j (by simp)
  have el:atI (Zz (ys++[y])) (-1)=some (V.int (y:Int)):=by rw[Zev];exact Zkx _ _
  have ej:atI (Zz ((j::B').map λj=>i+1+j)) 0=some (V.int ((i+1+j:Nat):Int)):=Zd3 (j:=0) rfl
  have eg:(ys++[y]).getLast?=some y:=by simp
  rw[eg]at EE
  walk_at "rd"
  refine⟨_,SqL.of hxa,_,el,_,_,rfl,sx.q hr1,_,Za1 hy,_,SqL.of hxb,_,ej,_,_,rfl,sx.q hr1,_,Za1 hj,_,rfl,_,rfl,Z3 (λz=>⟨_,SqL.of hxa,_,el,k1 _ _ ?_ sx⟩) λz=>⟨_,SqL.of hxb,_,ej,k1 _ _ ?_ sx⟩⟩
  ·simp only[List.head?_cons,Ya (show ¬ nth ns y<=nth ns (i+1+j) by omega)]at EE
   exact EE
  ·simp only[List.head?_cons,Yc (show nth ns y<=nth ns (i+1+j) by omega)]at EE
   exact EE
theorem ok__law_tree {f:Addr}{fd:FuncData} (F:Fun K "_law_tree" "_law_tree" s__law_tree f fd) (Zct:Callee P w K mg base "_law_elder" 1 ["row","place"] (Zb1 K mg)) (T:Txt K mg):FnOk P w K mg base (CXE P w) 2 f fd ["row"] (sp__law_tree K mg):=by
 refine F.okX sc__law_tree (λvs H Q E h=>?_) (λcdv A outer s H vs Q E hr h=>?_)
 ·obtain⟨r,ns,rfl,_⟩:=h;rfl
 obtain⟨r,ns,rfl,hr0,hn,k1⟩:=h
 refine⟨_,(Zg (Zy (Za0 (Zgw (K:=K) rfl) rfl T.b_tuple Zfs (Za (ZaQ ["place","row"] [none,some 0] rfl rfl rfl (ZI rfl T.b_range (Za (Zm (Zq (K:=K) rfl) rfl T.b_len Yv (Za (pv 0) Zb)) Zb)) (λ_ _ _ _ _=>(Zo (i:=0) (show(["place","row"]:List Str).Nodup from by decide +kernel) rfl (Or.inl rfl))) (λ_ _ _ _ _=>Zax) (λ_ _ _ _ _=>(Zi Zct (hr.mono (by decide)) rfl Zr (Za (pv 1) (Za (pv 0) Zb)))) ZG) Zb)))),?_⟩
 walk_at "rd"
 have eL:(ns.map V.int).length=ns.length:=Yf ..
 refine⟨_,hr0,by omega,by omega,?_⟩
 have e1:(((ns.map V.int).length:Nat):Int).toNat=ns.length:=by rw[eL];omega
 rw[e1]
 refine Zbg (n:=ns.length) (λi acc Hx=>∃es:List Int,acc=es.map V.int/\es.length=i/\(∀p,p<i->Zv (nth ns) ns.length p (es.getD p 0))/\Zf H Hx) (Yw (show _<=1000 by omega) (by decide)) ⟨[],rfl,rfl,(λp hp=>absurd hp (by omega)),Zf.refl _⟩ (λi acc Hx _ hi=>hi) (λacc Hx _=>Yd _) ?_ ?_
 ·rintro i x acc Hx Hy hi hla ⟨es,rfl,hl,hE,sx⟩ ⟨rfl,rfl⟩
  walk_at "rd"
  refine⟨r,ns,i,by rw[Int.zero_add],sx.q hr0,hn,hi,λe H2 he s2=>CA.take hi hla ⟨es++[e],by simp,by simp[hl],λp hp=>?_,sx.trans s2⟩⟩
  by_cases z:p<es.length
  ·rw[show(es++[e]).getD p 0=es.getD p 0 by simp[Yr,YX z]]
   exact hE p (by omega)
  ·have ep:p=es.length:=by omega
   rw[show(es++[e]).getD p 0=e by rw[ep];simp[Yr],ep,hl]
   exact he
 ·rintro l acc Hx ⟨es,rfl,hl,hE,sx⟩ _ hlx
  refine⟨l,rfl,_,.inl ⟨SqL.of Zc,λt ht=>k1 t es _ ⟨hl,hE⟩ ((sx.ZbO hlx).ZbO ht) Zc⟩⟩
theorem Zf7 {f:Addr}{fd:FuncData} (F:Fun K "_law_whole" "_law_whole" Zaq f fd) (T:Txt K mg):FnOk P w K mg base (CXE P w) 1 f fd ["thing"] (ZbZ K mg):=by
 refine F.okX Zf5 (λvs H Q E h=>?_) (λcdv A outer s H vs Q E hr h=>?_)
 ·obtain⟨n,rfl,_⟩:=h;rfl
 obtain⟨i,rfl,k1⟩:=h
 refine⟨_,(Zg (Zy (pe_and (Zm (Zgx (K:=K) rfl) rfl T.b_isinstance Zdy (Za (pv 0) (Za (ZiN (v:=.ty "int") rfl T.b_int ZkG rfl) Zb))) (Zkm (pe_not (Zm (Zgx (K:=K) rfl) rfl T.b_isinstance Zdy (Za (pv 0) (Za (ZiN (v:=.ty "bool") rfl T.b_bool Zmv rfl) Zb)))))))),?_⟩
 walk_at "rd"
 exact⟨_,ty_ii,iteT ⟨_,ty_ib,k1⟩⟩
theorem ZcQ {f:Addr}{fd:FuncData}{dV:Value} (F:FunD K "need_numbers" "need_numbers" ZX f fd dV) (T:Txt K mg):FnOk P w K mg base (CXE P w) 1 f fd ["row","fewest"] (Zaz K mg):=by
 refine F.okX Ze7 (λvs H Q E h=>?_) (λcdv A outer s H vs Q E hr h=>?_)
 ·obtain⟨r,ns,k,rfl,_⟩:=h;rfl
 obtain⟨r,ns,k,rfl,hS,hn,h0,h1,k1,k2⟩:=h
 refine⟨_,(Zg (ZR (Zn Zgm (Zm (Zq (K:=K) rfl) rfl T.b_len Yv (Za (pv 0) Zb)) (pv 1) (Zp _)) (Zg (Zfr rfl rfl T.c_Empty T.x_Empty (Za (Zet (Zcn (by decide) (Zg0 (Zm (Zq (K:=K) rfl) rfl T.b_len Yv (Za (pv 0) Zb)) (Zcn (by decide) (Zg0 (pv 1) (Zcn (by decide) Zis)))))) Zb) Zg1)) ZA)),?_⟩
 walk_at "rd"
 have eN:(ns.map V.int).length=ns.length:=Yf ..
 exact⟨_,hS,Z3 (λz=>⟨_,hS,by omega,by rw[eN];omega,h0,by omega,λy=>⟨by decide,k2 (by rw[eN]at z;exact z)⟩⟩) λz=>k1 (by rw[eN]at z;omega)⟩
theorem ok_settle {f:Addr}{fd:FuncData} (F:Fun K "settle" "settle" s_settle f fd) (T:Txt K mg):FnOk P w K mg base (CXE P w) 1 f fd ["elders","spine","place","keep"] (sp_settle K mg):=by
 refine F.okX sc_settle (λvs H Q E h=>?_) (λcdv A outer s H vs Q E hr h=>?_)
 ·obtain⟨el,sp,es,A,B,i,rfl,_⟩:=h;rfl
 obtain⟨el,sp,es,A',B,i,rfl,hel,hsp,hne,hi,hq,hlen,k1⟩:=h
 refine⟨_,(Ze (ZR (Zn Zgm (pv 3) (Zm (Zq (K:=K) rfl) rfl T.b_len Yv (Za (pv 1) Zb)) (Zp _)) (Zg (ZbY (pv 2) (Zeo (pv 0) (ZF ZQ (pv 1) (pv 3) (λ_ _=>rfl)) set_list (λ_=>rfl)))) ZA)
   (Ze (ZR (Zn ZcY (pv 3) Zd (Zp _)) (Zg (ZbY (ZF ZQ (pv 1) (Zl ZaZ (pv 3) Zd) (λ_ _=>rfl)) (Zeo (pv 0) (pv 2) set_list (λ_=>rfl)))) ZA)
   (Ze (Ziy (pv 1) (pv 3))
   (Zg (ZaK (ZdZ PySem.F.plainAttrs_list PySem.F.slot_list_append PySem.F.type_list_append Zbx (pv 1) (Za (pv 2) Zb))))))),?_⟩
 walk_at "rd"
 have hb1:(Zz A').length<sizeLine:=by
  rw[ZT]
  rw[Yy]at hlen
  exact Yw (show _<=1000 by omega) (by decide)
 have etk:List.take A'.length (Zz (A'++B))=Zz A':=by
  rw[Zev]
  have:A'.length=(Zz A').length:=(ZT A').symm
  rw[this,List.take_left]
 have hle:A'.length<=(Zz (A'++B)).length:=by rw[ZT,Yy];omega
 have esn:Zz A'++[V.int (i:Nat)]=Zz (A'++[i]):=by rw[Zev];rfl
 refine⟨_,.inl (SqL.of hsp),?_⟩
 rw[ZT,Yy]
 -- the end: behind the two stores
 have fin:∀(es1:List Int) (Hx:Hp),(∀b o,b≠el->b≠sp->H b=some o->Hx b=some o)->Hx el=some (.lst (es1.map V.int))->Hx sp=some (.lst (Zz (A'++B)))->es1=Ze4 es A' B i ->
   ∃(xs:List V) (k:Nat),(A'.length:Int)=(k:Int)/\Hx sp=some (HO.lst xs)/\k<=xs.length/\tyV K "list" (V.ref sp) (upd Hx sp (HO.lst (List.take k xs)))/\∃x,upd Hx sp (HO.lst (List.take k xs)) sp=some (HO.lst x)/\x.length<sizeLine/\Q V.non (upd (upd Hx sp (HO.lst (List.take k xs))) sp (HO.lst (x++[V.int (i:Nat)]))):=by
  intro es1 Hx h1 h2 h3 h4
  refine⟨_,A'.length,rfl,h3,hle,ZaO Zc,_,Zc,by rw[etk];exact hb1,k1 _ (λb o n1 n2 z=>by rw[Zh n2,Zh n2];exact h1 b o n1 n2 z) (by rw[Zh hne,Zh hne,h2,h4]) (by rw[Zc,etk,esn])⟩
 -- elders[place]=spine[keep-1]
 have mid:∀(es1:List Int) (Hx:Hp),(∀b o,b≠el->b≠sp->H b=some o->Hx b=some o)->Hx el=some (.lst (es1.map V.int))->es1.length=es.length->Hx sp=some (.lst (Zz (A'++B)))->∀q,A'.getLast?=some q->es1.set i (q:Int)=Ze4 es A' B i ->
   ∃x,SqL K Hx sp x/\∃x_1,atI x ((A'.length:Int)-1)=some x_1/\∃x,Hx el=some (HO.lst x)/\∃x_2,ixN x.length (i:Int)=some x_2/\∃(xs:List V) (k:Nat),(A'.length:Int)=(k:Int)/\upd Hx el (HO.lst (x.set x_2 x_1)) sp=some (HO.lst xs)/\k<=xs.length/\tyV K "list" (V.ref sp) (upd (upd Hx el (HO.lst (x.set x_2 x_1))) sp (HO.lst (List.take k xs))) /\
    ∃x_3,upd (upd Hx el (HO.lst (x.set x_2 x_1))) sp (HO.lst (List.take k xs)) sp=some (HO.lst x_3)/\x_3.length<sizeLine/\Q V.non (upd (upd (upd Hx el (HO.lst (x.set x_2 x_1))) sp (HO.lst (List.take k xs))) sp (HO.lst (x_3++[V.int (i:Nat)]))):=by
  intro es1 Hx h1 h2 hl1 h3 q hq h4
  have hpos:0<A'.length:=by
   cases A' with
   |nil=>cases hq
   |cons _ _=>simp
  have hat:(A'++B)[A'.length-1]?=some q:=by
   rw[YX (by omega)]
   rw[List.getLast?_eq_getElem?]at hq;exact hq
  have ei:((A'.length:Int)-1)=((A'.length-1:Nat):Int):=by omega
  refine⟨_,SqL.of h3,_,by rw[ei];exact Zd3 hat,_,h2,i,by rw[Yf,hl1];exact Zfk hi,?_⟩
  have em:(es1.map V.int).set i (V.int (q:Nat))=(es1.set i (q:Int)).map V.int:=by rw[List.map_set]
  rw[em]
  exact fin _ _ (λb o n1 n2 z=>by rw[Zh n1];exact h1 b o n1 n2 z) Zc (by rw[Zh hne.symm];exact h3) h4
 cases B with
 |nil =>
  rw[Ya (by simp)]
  cases hq:A'.getLast? with
  |none =>
   have:A'=[]:=List.getLast?_eq_none_iff.mp hq
   rw[Ya (by rw[this];simp)]
   exact fin es H (λb o _ _ z=>z) hel hsp (by unfold Ze4;rw[hq];rfl)
  |some q =>
   have:A'≠[]:=λz=>by rw[z]at hq;cases hq
   rw[Yc (by have:=List.length_pos_iff.mpr this;omega)]
   exact mid es H (λb o _ _ z=>z) hel rfl hsp q hq (by unfold Ze4;rw[hq];rfl)
 |cons b Br =>
  rw[Yc (by simp;omega)]
  have hat:(A'++b::Br)[A'.length]?=some b:=by rw[YW (Yd _)];simp
  have hbn:b<es.length:=hq b (by simp)
  refine⟨_,SqL.of hsp,_,Zd3 hat,_,_,rfl,hel,b,by rw[Yf];exact Zfk hbn,?_⟩
  have em:(es.map V.int).set b (V.int (i:Nat))=(es.set b (i:Int)).map V.int:=by rw[List.map_set]
  rw[em]
  cases hq2:A'.getLast? with
  |none =>
   have:A'=[]:=List.getLast?_eq_none_iff.mp hq2
   rw[Ya (by rw[this];simp)]
   exact fin (es.set b i) _ (λc o n1 n2 z=>by rw[Zh n1];exact z) Zc (by rw[Zh hne.symm];exact hsp) (by unfold Ze4;rw[hq2];rfl)
  |some q =>
   have:A'≠[]:=λz=>by rw[z]at hq2;cases hq2
   rw[Yc (by have:=List.length_pos_iff.mpr this;omega)]
   exact mid (es.set b i) _ (λc o n1 n2 z=>by rw[Zh n1];exact z) Zc (by simp) (by rw[Zh hne.symm];exact hsp) q hq2 (by unfold Ze4;rw[hq2];rfl)
theorem ok_tree_of {f:Addr}{fd:FuncData} (F:Fun K "tree_of" "tree_of" s_tree_of f fd) (ZfL:Callee P w K mg base "settle" 1 ["elders","spine","place","keep"] (sp_settle K mg)) (T:Txt K mg):FnOk P w K mg base (CXE P w) 2 f fd ["row"] (sp_tree_of K mg):=by
 refine F.okX sc_tree_of (λvs H Q E h=>?_) (λcdv A outer s H vs Q E hr h=>?_)
 ·obtain⟨r,ns,rfl,_⟩:=h;rfl
 obtain⟨r,ns,rfl,hS,hn,k1⟩:=h
 refine⟨_,(Ze (Zt (i:=1) sc_tree_of.nd rfl (Or.inl rfl) (Zl Zir (ZaL (Za (ZcN Zbh Zd) Zb)) (Zm (Zq (K:=K) rfl) rfl T.b_len Yv (Za (pv 0) Zb))))
   (Ze (Zt (i:=2) sc_tree_of.nd rfl (Or.inl rfl) (ZaL Zb))
   (Ze (Zco (ZcW PassesOwn.never rfl (ZI rfl T.b_range (Za (Zm (Zq (K:=K) rfl) rfl T.b_len Yv (Za (pv 0) Zb)) Zb)) (Zo (i:=3) sc_tree_of.nd rfl (Or.inl rfl)) (Ze (Zt (i:=4) sc_tree_of.nd rfl (Or.inl rfl) (Zm (Zq (K:=K) rfl) rfl T.b_len Yv (Za (pv 2) Zb)))
   (Ze (Zco (Zkn PassesOwn.never (PW.pt (Zkk (Zn ZcY (pv 4) Zd (Zp _)) (ZiO (Zn ZcY (ZF (Ze3 (K:=K) rfl) (pv 0) (ZF ZQ (pv 2) (Zl ZaZ (pv 4) Zd) (λ_ _=>rfl)) (λ_ _=>rfl)) (ZF (Ze3 (K:=K) rfl) (pv 0) (pv 3) (λ_ _=>rfl)) (Zp _))))) (Zg (ps_aug (i:=4) sc_tree_of.nd rfl (Or.inl rfl) Zd ip_sub))))
   (Zg (ZaK (Zi ZfL (hr.mono (by decide)) rfl Zr (Za (pv 1) (Za (pv 2) (Za (pv 3) (Za (pv 4) Zb)))))))))))
   (Zg (Zy (Za0 (ZjU (K:=K) rfl) rfl T.b_tuple Zfs (Za (pv 1) Zb))))))),?_⟩
 walk_at "rd"
 have eL:(ns.map V.int).length=ns.length:=Yf ..
 refine⟨by decide,λp hp=>⟨_,((Zf.refl H).upd hp).q hS,_,Zc,by omega,by rw[eL];omega,?_,λel hel=>⟨Yu _,λsp hsp=>?_⟩⟩⟩
 ·exact Yh (show _<=1000 by simp;omega) (by decide)
 have s0:Zf H (upd (upd (upd H p (.lst [V.int (-1)])) el (.lst (List.replicate (((ns.map V.int).length:Nat):Int).toNat [V.int (-1)]).flatten)) sp (.lst [])):=(((Zf.refl H).upd hp).ZbO hel).ZbO hsp
 refine⟨_,s0.q hS,by omega,by rw[eL];omega,?_⟩
 have en:(((ns.map V.int).length:Nat):Int).toNat=ns.length:=by rw[eL];omega
 have hel0:(upd (upd (upd H p (.lst [V.int (-1)])) el (.lst (List.replicate (((ns.map V.int).length:Nat):Int).toNat [V.int (-1)]).flatten)) sp (.lst [])) el=some (.lst ((List.replicate ns.length (-1:Int)).map V.int)):=by
  have:=((Zf.refl _).ZbO (o:=.lst []) hsp) el _ Zc
  rw[this,en];simp
 have hsp0:(upd (upd (upd H p (.lst [V.int (-1)])) el (.lst (List.replicate (((ns.map V.int).length:Nat):Int).toNat [V.int (-1)]).flatten)) sp (.lst [])) sp=some (.lst (Zz [])):=Zc
 have nes:el≠sp:=λz=>by
  subst z
  rw[Zc]at hsp;cases hsp
 have zel:H el=none:=((Zf.refl H).upd hp).free hel
 have zsp:H sp=none:=(((Zf.refl H).upd hp).ZbO hel).free hsp
 rw[en]at hel0 hsp0 s0⊢
 generalize (upd (upd (upd H p (.lst [V.int (-1)])) el (.lst (List.replicate ns.length [V.int (-1)]).flatten)) sp (.lst []))=H0 at s0 hel0 hsp0⊢
 refine Zbw (λi σ Hx=>∃(es:List Int) (S:List Nat) (v3 v4:Option V),σ=[some (.ref r),some (.ref el),some (.ref sp),v3,v4]/\Zf H Hx/\Hx el=some (.lst (es.map V.int))/\Hx sp=some (.lst (Zz S))/\es.length=ns.length/\ZkM (nth ns) i S/\(∀p e,p<i->e=es.getD p 0->Zv (nth ns) i p e)/\∀p,i<=p->p<ns.length->es.getD p 0=-1)
  ⟨List.replicate ns.length (-1),[],none,none,rfl,s0,hel0,hsp0,by simp,⟨List.Pairwise.nil,λq=>by simp⟩,λp e hp=>by omega,λp _ hp=>by simp[Yr,hp]⟩ ?_ ?_
 ·rintro i σ Hx hi ⟨es,S,v3,v4,rfl,sx,hxe,hxs,hesl,hS2,hE,hE2⟩
  walk_at "rd"
  have hin:i<ns.length:=by omega
  have hSl:S.length<=1000:=by
   rcases ZkQ S i 0 hS2.1 (λq hq=>⟨Yu _,((hS2.2 q).mp hq).1⟩)with z|z
   ·omega
   ·rw[z];simp
  refine⟨_,.inl (SqL.of hxs),?_⟩
  rw[ZT]
  refine ZmB S.length (λj σ Hy=>∃A B,S=A++B/\B.length=j/\(∀q∈B,nth ns i<nth ns q)/\σ=[some (.ref r),some (.ref el),some (.ref sp),some (.int (0+(i:Int))),some (.int (A.length:Nat))]/\Hy=Hx) ⟨S,[],by simp,rfl,(λq hq=>absurd hq (by simp)),rfl,rfl⟩ ?_
  rintro j σ Hy hj ⟨A,B,hAB,hBl,hBg,rfl,rfl⟩
  walk_at "rd"
  have hmem:∀q,q∈A++B->q<i:=λq hq=>((hS2.2 q).mp (by rw[hAB];exact hq)).1
  have hix:(0+(i:Int))=(i:Int):=by omega
  rw[hix]
  by_cases hA0:A=[]
  case' pos =>
   rw[Ya (by rw[hA0];simp)]
   have hA:∀q∈A,nth ns q<=nth ns i:=λq hq=>absurd hq (by rw[hA0];simp)
  case' neg =>
   obtain⟨q,Al,rfl⟩:∃q Al,A=Al++[q]:=⟨A.getLast hA0,A.dropLast,(List.dropLast_concat_getLast hA0).symm⟩
   have hal:(Al++[q]).length=Al.length+1:=by simp
   rw[Yc (by rw[hal];omega)]
   have eiA:(((Al++[q]).length:Nat):Int)-1=(Al.length:Int):=by rw[hal];omega
   have hat:S[Al.length]?=some q:=by
    rw[hAB,YD,YW (Yd _)];simp
   have hqi:q<i:=hmem q (by simp)
   refine⟨_,SqL.of hxs,_,by rw[eiA];exact Zd3 hat,_,_,rfl,sx.q hS,_,Za1 (by omega),_,sx.q hS,_,Za1 hin,_,rfl,_,rfl,Z3 (λhlt=>?_) (λhge=>?_)⟩
   ·have hj2:j+1<=S.length:=by rw[hAB,Yy,hal];omega
    refine⟨_,WI.next,hj2,Al,q::B,by rw[hAB];simp,by simp[hBl],λx hx=>?_,by rw[eiA],rfl⟩
    rcases Yl.mp hx with z|z
    ·rw[z];exact hlt
    ·exact hBg x z
   have hA:∀x∈Al++[q],nth ns x<=nth ns i:=λx hx=>by
    by_cases z:x=q
    ·rw[z];omega
    ·have hxa:x∈Al:=by
      rcases Yq.mp hx with y|y
      ·exact y
      ·exact absurd (by simpa using y) z
     have hpw:=hS2.1
     rw[hAB]at hpw
     have hxq:x<q:=(List.pairwise_append.mp (List.pairwise_append.mp hpw).1).2.2 x hxa q (by simp)
     have:=((hS2.2 x).mp (by rw[hAB];exact YJ _ hx)).2 q hxq hqi
     omega
   generalize Al++[q]=A at hA hAB hmem hA0⊢
  all_goals
   have SS:=Zix (f:=nth ns) (i:=i) (A:=A) (B:=B) (by rw[<-hAB];exact hS2) hA hBg
   refine⟨el,sp,es,A,B,i,rfl,hxe,by rw[<-hAB];exact hxs,nes,by omega,λq hq=>by have:=hmem q hq;omega,by rw[<-hAB];exact hSl,λH' q1 q2 q3=>?_⟩
   have hbi:∀b,B.head?=some b->b≠i:=λb hb=>by
    have:=hmem b (Yt _ (List.mem_of_head? hb));omega
   refine⟨λb o z=>q1 b o (Zx z zel) (Zx z zsp) (sx b o z),Ze4 es A B i,q2,A++[i],q3,by rw[ZkP];exact hesl,SS.1,λp e hp he=>?_,λp hp1 hp2=>?_⟩
   ·rw[Zi9 _ _ _ _ _ (by omega) hbi]at he
    by_cases z:p=i
    ·subst z
     rw[Yc rfl,hE2 p (Yd _) (by omega)]at he
     rw[he];exact SS.2.1
    ·rw[Ya z]at he
     rw[he]
     exact SS.2.2 p _ (by omega) (hE p _ (by omega) rfl)
   ·rw[Zi9 _ _ _ _ _ (by omega) hbi,Ya (by omega),Ya (λz=>?_)]
    ·exact hE2 p (by omega) hp2
    ·have:=hmem p (Yt _ (List.mem_of_head? z));omega
 ·rintro σ Hx ⟨es,S,v3,v4,rfl,sx,hxe,hxs,hesl,hS2,hE,hE2⟩
  walk_at "rd"
  exact⟨_,SqL.of hxe,λt H7 zt s7 ht=>k1 t es H7 ⟨hesl,λp hp=>hE p _ hp rfl⟩ (sx.trans s7) ht⟩
noncomputable def AheadTo (T:List Int) (j v:Nat):Option Nat->Prop
 |none=>∀c,c<v->c<j->nth T c≠v
 |some c=>c<v/\c<j/\nth T c=v
noncomputable def BehindTo (T:List Int) (j v:Nat):Option Nat->Prop
 |none=>∀c,v<c->c<j->nth T c≠v
 |some c=>v<c/\c<j/\nth T c=v
noncomputable def YTo (H:Hp) (as:List Addr) (T:List Int) (j:Nat):Prop:=∀(v:Nat) (a:Addr),as[v]?=some a->∃ah bh,AheadTo T j v ah/\BehindTo T j v bh/\H a=some (.lst [optN ah,optN bh])
theorem AheadTo.skip {T:List Int}{j v:Nat}{o:Option Nat} (h:AheadTo T j v o) (n:¬ (j<v/\nth T j=v)):AheadTo T (j+1) v o:=by
 cases o with
 |none =>
  intro c c1 c2 e
  by_cases z:c=j
  ·subst z;exact n ⟨c1,e⟩
  ·exact h c c1 (by omega) e
 |some c=>exact⟨h.1,by have:=h.2.1;omega,h.2.2⟩
theorem BehindTo.skip {T:List Int}{j v:Nat}{o:Option Nat} (h:BehindTo T j v o) (n:¬ (v<j/\nth T j=v)):BehindTo T (j+1) v o:=by
 cases o with
 |none =>
  intro c c1 c2 e
  by_cases z:c=j
  ·subst z;exact n ⟨c1,e⟩
  ·exact h c c1 (by omega) e
 |some c=>exact⟨h.1,by have:=h.2.1;omega,h.2.2⟩
theorem YTo.same {H H':Hp}{as:List Addr}{T:List Int}{j:Nat} (h:YTo H as T j) (s:Zf H H'):YTo H' as T j:=λv a e=>by
 obtain⟨ah,bh,h1,h2,h3⟩:=h v a e
 exact⟨ah,bh,h1,h2,s _ _ h3⟩
theorem YTo.skip {H:Hp}{as:List Addr}{T:List Int}{j:Nat} (h:YTo H as T j) (n:∀v:Nat,v<as.length->nth T j≠v):YTo H as T (j+1):=λv a e=>by
 obtain⟨ah,bh,h1,h2,h3⟩:=h v a e
 have hv:=(Yk.mp e).1
 exact⟨ah,bh,h1.skip λz=>n v hv z.2,h2.skip λz=>n v hv z.2,h3⟩
theorem YTo.set {H:Hp}{as:List Addr}{T:List Int}{j q:Nat}{a:Addr}{ah bh:Option Nat} (h:YTo H as T j) (nd:as.Nodup) (ea:as[q]?=some a) (hA:AheadTo T (j+1) q ah) (hB:BehindTo T (j+1) q bh) (eq:nth T j=q):YTo (upd H a (.lst [optN ah,optN bh])) as T (j+1):=λv b e=>by
 by_cases c:v=q
 ·subst c
  rw[ea]at e;cases e
  exact⟨ah,bh,hA,hB,Zc⟩
 ·have nb:b≠a:=λz=>by
   subst z
   obtain⟨h1,e1⟩:=Yk.mp ea
   obtain⟨h2,e2⟩:=Yk.mp e
   exact c ((List.getElem_inj nd (h₀:=h2) (h₁:=h1)).mp (e2.trans e1.symm))
  obtain⟨ah',bh',h1,h2,h3⟩:=h v b e
  exact⟨ah',bh',h1.skip λz=>c (by have:=z.2;omega),h2.skip λz=>c (by have:=z.2;omega),by rw[Zh nb];exact h3⟩
theorem ok_young_of {f:Addr}{fd:FuncData} (F:Fun K "young_of" "young_of" s_young_of f fd) (T:Txt K mg):FnOk P w K mg base (CXE P w) 1 f fd ["tree"] (sp_young_of K mg):=by
 refine F.okX sc_young_of (λvs H Q E h=>?_) (λcdv A outer s H vs Q E hr h=>?_)
 ·obtain⟨t,T,rfl,_⟩:=h;rfl
 obtain⟨t,T',rfl,ht,hG,k1⟩:=h
 refine⟨_,(Ze (Zc0 (i:=1) ["place"] [none] sc_young_of.nd rfl (Or.inl rfl) rfl rfl rfl (Zkp (pv 0)) (λ_ _ _ _ _=>(Zo (i:=0) (show(["place"]:List Str).Nodup from by decide +kernel) rfl (Or.inl rfl))) (λ_ _ _ _ _=>Zax) (λ_ _ _ _ _=>(ZaL (Za Zid (Za Zid Zb)))) ZG)
   (Ze (Zco (ZcW PassesOwn.never rfl (ZkS (K:=K) rfl rfl T.b_enumerate (Za (pv 0) Zb)) (ZgQ (n:=2) rfl (Zaw (Zo (i:=2) sc_young_of.nd rfl (Or.inl rfl)) (Zaw (Zo (i:=3) sc_young_of.nd rfl (Or.inl rfl)) ZdY))) (Zg (ZR (Zn Zks (pv 3) Zd (Zp _)) (Zg (ZbY (pv 2) (Zeo (ZF ZQ (pv 1) (pv 3) (λ_ _=>rfl)) (Zhr (Zn ZcY (pv 2) (pv 3) (Zp _)) Zd Zd) set_list (λ_=>rfl)))) ZA))))
   (Zg (Zy (pv 1))))),?_⟩
 have h40:=hG.1
 obtain⟨_,nsT,hT⟩:=id hG
 have eT:=hT.1
 have eL:(T'.map V.int).length=T'.length:=Yf ..
 walk_at "rd"
 refine⟨⟨_,ht⟩,Zbg (n:=T'.length) (λj acc Hz=>∃as:List Addr,acc=as.map V.ref/\as.length=j/\as.Nodup/\(∀a∈as,Hz a=some (.lst [.non,.non])/\H a=none)/\Zf H Hz) (Yw (show _<=1000 by omega) (by decide)) ⟨[],rfl,rfl,List.nodup_nil,(λa ha=>absurd ha (by simp)),Zf.refl H⟩ (λj acc Hz ⟨_,_,_,_,_,e⟩ hj=>⟨_,_,(e.Ziv ht),nthV hj⟩) (λacc Hz ⟨_,_,_,_,_,e⟩=>⟨_,(e.Ziv ht),Nat.le_of_eq eL⟩) ?_ ?_⟩
 ·rintro j x acc Hz Hw hj hla ⟨as,rfl,hal,hnd,has,sz⟩ ⟨rfl,hx⟩
  walk_at "rd"
  refine⟨by decide,λp zp=>CA.take hj hla ⟨as++[p],by simp,by simp[hal],?_,λa ha=>?_,sz.ZbO zp⟩⟩
  ·rw[List.nodup_append]
   refine⟨hnd,by simp,λa ha b hb=>?_⟩
   have:b=p:=by simpa using hb
   subst this
   exact λz=>by rw[z]at ha;rw[(has _ ha).1]at zp;cases zp
  ·rcases Yq.mp ha with z|z
   ·exact⟨((Zf.refl _).upd zp) _ _ (has a z).1,(has a z).2⟩
   ·have:a=p:=by simpa using z
    subst this
    exact⟨Zc,sz.free zp⟩
 rintro y acc Hz ⟨as,rfl,hal,hnd,has,sz⟩ _ zy
 have gy:=(Zf.refl Hz).upd (o:=.lst (as.map V.ref)) zy
 have hyy:=Zc (H:=Hz) (a:=y) (o:=.lst (as.map V.ref))
 have s1:=sz.trans gy
 have zy0:=sz.free zy
 have ny:y∉as:=λz=>by rw[(has _ z).1]at zy;cases zy
 have Y0:YTo (upd Hz y (.lst (as.map V.ref))) as T' 0:=λv a e=>⟨none,none,(λc _ h=>absurd h (by omega)),(λc _ h=>absurd h (by omega)),gy _ _ (has a (List.mem_of_getElem? e)).1⟩
 generalize upd Hz y (.lst (as.map V.ref))=H1 at gy hyy s1 Y0⊢
 refine⟨_,(s1.Ziv ht),?_⟩
 refine ZkT (n:=T'.length) (λj σ Hx=>∃v2 v3:Option V,σ=[some (.ref t),some (.ref y),v2,v3]/\Hx y=some (.lst (as.map V.ref))/\YTo Hx as T' j/\Zf H Hx) ⟨none,none,rfl,hyy,Y0,s1⟩ (λj σ Hx hj ⟨_,_,_,_,_,e⟩=>⟨_,_,(e.Ziv ht),nthV hj⟩) (fun σ Hx ⟨_,_,_,_,_,e⟩=>⟨_,(e.Ziv ht),eL⟩) ?_ ?_
 ·rintro j x σ Hx Hw hj ⟨v2,v3,rfl,hyx,Yx,sx⟩ ⟨p,w,zp,rfl,rfl,hx⟩
  have ex:=hx _ ((sx.Ziv ht))
  rw[nthV hj]at ex
  cases ex
  walk_at "rd"
  have gp:=(Zf.refl Hx).upd (o:=.tup [V.int (j:Int),V.int (nth T' j)]) zp
  have hp:=Zc (H:=Hx) (a:=p) (o:=.tup [V.int (j:Int),V.int (nth T' j)])
  generalize upd Hx p (.tup [V.int (j:Int),V.int (nth T' j)])=H2 at gp hp⊢
  refine⟨_,SqT.of hp,rfl,_,_,rfl,_,_,rfl,rfl,_,rfl,?_⟩
  have sx2:=sx.trans gp
  have hyx2:=gp _ _ hyx
  have Yx2:=Yx.same gp
  refine Z3 (λc0=>?_) λc0=>⟨hyx2,Yx2.skip λv _=>by omega,sx2⟩
  have hq:∃q:Nat,nth T' j=q/\q<T'.length/\q≠j:=by
   rcases ZaG hT (p:=j) (by omega)with z|⟨q,ez,hq,hO,hd⟩
   ·omega
   ·refine⟨q,ez,by omega,λe=>?_⟩
    subst e;omega
  obtain⟨q,eq,hqT,nqj⟩:=hq
  obtain⟨a,ea⟩:∃a,as[q]?=some a:=⟨_,Ye (by omega)⟩
  obtain⟨ah,bh,hA,hB,ha⟩:=Yx2 q a ea
  have na:a≠y:=λz=>ny (z▸List.mem_of_getElem? ea)
  have za:H a=none:=(has a (List.mem_of_getElem? ea)).2
  refine⟨_,_,rfl,SqL.of hyx2,V.ref a,by rw[eq];exact ZgT (by rw[YK,ea];rfl),_,rfl,_,rfl,Z3 (λc1=>?_) λc1=>?_⟩
  ·refine⟨a,rfl,_,ha,1,rfl,by rw[Zh na.symm];exact hyx2,?_,sx2.upd za⟩
   exact Yx2.set (ah:=ah) (bh:=some j) hnd ea (hA.skip λz=>by omega) ⟨by omega,by omega,eq⟩ eq
  ·refine⟨a,rfl,_,ha,0,rfl,by rw[Zh na.symm];exact hyx2,?_,sx2.upd za⟩
   exact Yx2.set (ah:=some j) (bh:=bh) hnd ea ⟨by omega,by omega,eq⟩ (hB.skip λz=>by omega) eq
 ·rintro σ Hx ⟨v2,v3,rfl,hyx,Yx,sx⟩
  walk_at "rd"
  refine k1 y Hx zy0 ⟨as,hyx,hal,λv a e=>?_⟩ sx
  obtain⟨ah,bh,h1,h2,h3⟩:=Yx v a e
  refine⟨ah,bh,?_,?_,h3⟩
  ·cases ah with
   |none=>exact h1
   |some c=>exact h1
  ·cases bh with
   |none=>exact h2
   |some c=>exact h2
theorem Zf8 {f:Addr}{fd:FuncData} (F:Fun K "need_loose" "need_loose" Zao f fd) (Zbl:Zg7 P w K mg base "need_numbers" 1 ["row","fewest"] [V.int 1] (Zaz K mg)) (T:Txt K mg):FnOk P w K mg base (CXE P w) 2 f fd ["row","text"] (Zb0 K mg):=by
 refine F.okX Zf4 (λvs H Q E h=>?_) (λcdv A outer s H vs Q E hr h=>?_)
 ·obtain⟨r,x,ns,ts,rfl,_⟩:=h;rfl
 obtain⟨r,x,ns,ts,rfl,hr1,hx,h0,h6,h16,k1⟩:=h
 refine⟨_,(Ze (ZaK (ZjN Zbl (hr.mono (by decide)) rfl ZiY (Za (pv 0) Zb)))
   (Ze (ZR (Zn ZcY (Zm (Zq (K:=K) rfl) rfl T.b_len Yv (Za (pv 0) Zb)) (Zfg (v:=.int 6) rfl T.m_MOST_HELD ⟨_,rfl⟩) (Zp _)) (Zg (Zfr rfl rfl T.c_TooMany T.x_TooMany (Za (Zet (Zcn (by decide) (Zg0 (Zfg (v:=.int 6) rfl T.m_MOST_HELD ⟨_,rfl⟩) (Zcn (by decide) Zis)))) Zb) Zg1)) ZA)
   (Zg (ZR (Zn ZcY (Zm (Zq (K:=K) rfl) rfl T.b_len Yv (Za (pv 1) Zb)) (Zfg (v:=.int 16) rfl T.m_MOST_HOLDING ⟨_,rfl⟩) (Zp _)) (Zg (Zfr rfl rfl T.c_TooMany T.x_TooMany (Za (Zet (Zcn (by decide) (Zg0 (Zfg (v:=.int 16) rfl T.m_MOST_HOLDING ⟨_,rfl⟩) (Zcn (by decide) Zis)))) Zb) Zg1)) ZA)))),?_⟩
 walk_at "rd"
 have e1:(ns.map V.int).length=ns.length:=Yf ..
 have e2:(ts.map V.int).length=ts.length:=Yf ..
 exact⟨r,ns,1,rfl,hr1,by omega,by decide,by decide,λ_=>⟨_,hr1,Z3 (λz=>absurd z (by omega)) λ_=>⟨_,hx,Z3 (λz=>absurd z (by omega)) λ_=>k1⟩⟩,λz=>absurd z (by omega)⟩
theorem Za6.same {K:PySem.W.Frag}{mg:Str->Option Value}{H H':Hp}{a:Ha}{T ts:List Int} (h:Za6 K mg H a T ts) (s:Zf H H'):Za6 K mg H' a T ts:=by
 obtain⟨dx,fs,kvs,h1,h2,h3,⟨as,y1,y2,y3⟩,h5,h6,h7⟩:=h
 exact⟨dx,fs,kvs,s _ _ h1,h2,h3.same s,⟨as,s _ _ y1,y2,λv a e=>let ⟨ah,bh,p1,p2,p3⟩:=y3 v a e;⟨ah,bh,p1,p2,s _ _ p3⟩⟩,h5.elim (λe=>.inl (s _ _ e)) (λe=>.inr (s _ _ e)),s _ _ h6,h7⟩
theorem ZeK {K:PySem.W.Frag}{H:Hp}{a:Addr}{xs:List V} (h:H a=some (.lst xs)\/H a=some (.tup xs)):SqL K H a xs\/SqT K H a xs:=h.elim (λe=>.inl (SqL.of e)) λe=>.inr (SqT.of e)
theorem exc_trans {p:Addr}{H H1 H2:Hp} (a:Exc p H H1) (b:Exc p H1 H2):Exc p H H2:=λd o n z=>b d o n (a d o n z)
theorem Ze8 {f:Addr}{fd:FuncData} (F:Fun K "fits" "Holding.fits" ZZ f fd) (T:Txt K mg):FnOk P w K mg base (CXE P w) 1 f fd ["self","v","a","b","i"] (Zbi K mg):=by
 refine F.okX ZcO (λvs H Q E h=>?_) (λcdv A outer s H vs Q E hr h=>?_)
 ·obtain⟨h,T,ts,v,a,c,i,rfl,_⟩:=h;rfl
 obtain⟨h,T',ts,v,a,c,i,rfl,hH,hG,hv,hai,hic,hc,he,k1⟩:=h
 refine⟨_,(Ze (Zt (i:=5) ZcO.nd rfl (Or.inl rfl) (ZF Zcm (ZaR (K:=K) rfl T.cl_Holding T.n_Holding_tree (pv 0)) (pv 1) (λ_ _=>rfl)))
   (Ze (ZR (Zn Zdx (pv 5) (ZcN Zbh Zd) (Zp _)) (Zg (Zy Zgk)) ZA)
   (Zg (Zy (Zhr (Zn Zgm (pv 5) (pv 1) (Zp _)) (Zfh Zks (ZF (Ze3 (K:=K) rfl) (ZaR (K:=K) rfl T.cl_Holding T.n_Holding_text (pv 0)) (pv 4) (λ_ _=>rfl)) (ZF (Ze3 (K:=K) rfl) (ZaR (K:=K) rfl T.cl_Holding T.n_Holding_text (pv 0)) (Zl ZaZ (pv 2) Zd) (λ_ _=>rfl)) (Zp _)) (Zfh ZcY (ZF (Ze3 (K:=K) rfl) (ZaR (K:=K) rfl T.cl_Holding T.n_Holding_text (pv 0)) (pv 4) (λ_ _=>rfl)) (ZF (Ze3 (K:=K) rfl) (ZaR (K:=K) rfl T.cl_Holding T.n_Holding_text (pv 0)) (Zl Zad (pv 3) Zd) (λ_ _=>rfl)) (Zp _))))))),?_⟩
 obtain⟨dx,fs,kvs,h1,⟨f1,f2,f3,f4,f5,f6,f7⟩,h3,h4,h5,h6,h7⟩:=hH
 have hts:=ZeK (K:=K) h5
 obtain⟨_,ns,hT⟩:=id hG
 have eN:=hT.1
 unfold ZbD at k1
 walk_at "rd"
 refine⟨dx,fs,h1,_,f2,_,rfl,_,h3.sq,_,Za1 hv,rfl,Z3 (λz=>?_) λz=>⟨_,rfl,Z3 (λz2=>?_) λz2=>?_⟩⟩
 ·rw[Yc (V.int.inj z)]at k1;exact k1
 ·have z':nth T' v≠-1:=λy=>z (by rw[y])
  rcases ZaG hT (p:=v) (by omega)with y|⟨e,y,hel,_,_⟩
  ·exact absurd y z'
  rw[Ya z',Yc z2]at k1
  have ha:=((he e y).1 (by omega))
  refine⟨dx,fs,h1,_,f1,_,rfl,_,hts,_,Za1 (by omega),dx,fs,h1,_,f1,_,rfl,_,hts,V.int (nth ts (a-1)),?_,_,rfl,_,rfl,k1⟩
  rw[show((a:Int)-1)=((a-1:Nat):Int) by omega]
  exact Za1 (by omega)
 ·have z':nth T' v≠-1:=λy=>z (by rw[y])
  rcases ZaG hT (p:=v) (by omega)with y|⟨e,y,hel,_,_⟩
  ·exact absurd y z'
  rw[Ya z',Ya z2]at k1
  have hev:v<=e:=by omega
  have hc2:c<ts.length:=by
   rcases Nat.eq_or_lt_of_le hev with w|w
   ·exfalso
    have h3:=Zjl hT (by omega) (w▸y)
    exact h3
   ·exact(he e y).2 w
  refine⟨dx,fs,h1,_,f1,_,rfl,_,hts,_,Za1 (by omega),dx,fs,h1,_,f1,_,rfl,_,hts,V.int (nth ts c),?_,_,rfl,_,rfl,k1⟩
  rw[show((c:Int)-1+1)=((c:Nat):Int) by omega]
  exact Za1 hc2
theorem Zd7 {α:Type} (g:α->Nat):∀I:List α,(I.map λi=>((g i:Nat):Int)).sum=(((I.map g).sum:Nat):Int)
 |[]=>rfl
 |x::I=>by simp only[YB,List.sum_cons,Zd7 g I];omega
theorem Zk8 {v a c v' a' c':Nat} (h:Zc2 v a c=Zc2 v' a' c'):v=v'/\a=a'/\c=c':=by
 unfold Zc2 at h
 simp only[List.cons.injEq,Sum.inl.injEq,and_true]at h
 omega
theorem ZhV {kvs:List (List Key×V)}{k:List Key}{v:V}:(putK kvs k v).map (·.1)=if (Za3 kvs k).isSome=true then kvs.map (·.1)else kvs.map (·.1)++[k]:=by
 unfold putK
 rw[ZbC]
 by_cases h:(Za3 kvs k).isSome=true
 ·rw[Yc h,Yc h,YV]
  refine List.map_congr_left λx _=>?_
  show(if x.1=k then (x.1,v)else x).1=x.1
  split<;>rfl
 ·rw[Ya h,Ya h,YM];rfl
theorem ZiE.put {kvs:List (List Key×V)}{T ts:List Int} (h:ZiE kvs T ts) {v a c:Nat} (hv:v<T.length) (ha:a<=ts.length+1) (hc:c<=ts.length):ZiE (putK kvs (Zc2 v a c) (.int (waC T ts (some v) a c:Nat))) T ts:=by
 obtain⟨h1,h2,h3⟩:=h
 have hk:Zc2 v a c∈allK T.length ts.length:=by
  unfold allK
  simp only[List.mem_flatMap,YG,YC]
  exact⟨v,hv,a,by omega,c,by omega,rfl⟩
 refine⟨?_,?_,λv' a' c' w e=>?_⟩
 ·cases e:Za3 kvs (Zc2 v a c)with
  |none=>exact ZmL _ h1 e
  |some w=>rw[ZhV,e];exact h1
 ·intro k hkm
  rw[ZhV]at hkm
  split at hkm
  ·exact h2 k hkm
  ·rcases Yq.mp hkm with z|z
   ·exact h2 k z
   ·rw[YF.mp z];exact hk
 ·rw[ZhO]at e
  by_cases z:Zc2 v' a' c'=Zc2 v a c
  ·rw[Yc z]at e
   cases e
   obtain⟨rfl,rfl,rfl⟩:=Zk8 z
   rfl
  ·rw[Ya z]at e
   exact h3 v' a' c' w e
theorem ZiE.few {kvs:List (List Key×V)}{T ts:List Int} (h:ZiE kvs T ts) (hl:T.length<=6) (hlt:ts.length<=16):kvs.length<sizeLine:=by
 have h1:=h.1.length_le_of_subset (l₂:=allK T.length ts.length) λk hk=>h.2.1 k hk
 have h2:∀n,n<7->∀N,N<17->(allK n N).length<=2000:=by decide +kernel
 have:=h2 T.length (by omega) ts.length (by omega)
 rw[Yf]at h1
 exact Yw (show _<=2000 by omega) (by decide)
theorem Za6.put {K:PySem.W.Frag}{mg:Str->Option Value}{H:Hp}{h:Ha}{T ts:List Int}{kvs:List (List Key×V)} (hH:Za6 K mg H h T ts) (hk:H h.kn=some (.dT kvs)) (hn:ZiE kvs T ts) {v a c:Nat} (hv:v<T.length) (ha:a<=ts.length+1) (hc:c<=ts.length):Za6 K mg (upd H h.kn (.dT (putK kvs (Zc2 v a c) (.int (waC T ts (some v) a c:Nat))))) h T ts:=by
 obtain⟨dx,fs,kvs',h1,h2,⟨ob,o1,o2⟩,⟨as,y1,y2,y3⟩,h5,h6,h7⟩:=hH
 have nl:∀{b:Addr}{xs:List V},H b=some (.lst xs)->b≠h.kn:=λ{b xs} e z=>by rw[z,hk]at e;cases e
 refine⟨dx,fs,_,by rw[Zh (λz=>by rw[z,hk]at h1;cases h1)];exact h1,h2,⟨ob,o1,by rw[Zh (λz=>by rw[z,hk]at o2;cases o2)];exact o2⟩,⟨as,by rw[Zh (nl y1)];exact y1,y2,λv a e=>let ⟨ah,bh,p1,p2,p3⟩:=y3 v a e;⟨ah,bh,p1,p2,by rw[Zh (nl p3)];exact p3⟩⟩,?_,Zc,hn.put hv ha hc⟩
 rcases h5 with e|e
 ·exact .inl (by rw[Zh (nl e)];exact e)
 ·exact .inr (by rw[Zh (λz=>by rw[z,hk]at e;cases e)];exact e)
noncomputable def bB:Nat->Nat
 |0=>1
 |h+1=>16*(bB h*bB h)
theorem sum_bound {α:Type} (f:α->Nat) (B:Nat):∀L:List α,(∀x∈L,f x<=B)->(L.map f).sum<=L.length*B
 |[],_=>by simp
 |x::L,h=>by
  have:=sum_bound f B L λy hy=>h y (YN _ hy)
  have h1:=h x (YY ..)
  rw[YB,List.sum_cons,Yn,Nat.add_mul]
  omega
theorem ZiH:∀h,1<=bB h
 |0=>Yd _
 |h+1=>by
  have:=ZiH h
  have h2:=Nat.mul_le_mul this this
  show 1<=16*(bB h*bB h)
  omega
theorem ZeL {T:List Int}{tx:Nat->Int}:∀h o a c,c<=a+16->(Za5 T tx h o a c).length<=bB h
 |0,o,a,c,_=>by simp[Za5]
 |h+1,none,a,c,_=>ZiH (h+1)
 |h+1,some v,a,c,hc=>by
  rw[Zjj]
  refine Yh (sum_bound _ (bB h*bB h) _ λi hi=>?_) ?_
  ·have:=List.mem_range'_1.mp (YO.mp hi).1
   exact Nat.mul_le_mul (ZeL h _ a i (by omega)) (ZeL h _ (i+1) c (by omega))
  ·refine Nat.mul_le_mul_right _ ?_
   have:=Y2 (ZbD T tx v a c) (List.range' a (c-a))
   rw[List.length_range']at this
   omega
theorem ZhW {T ts:List Int}{o:Option Nat}{a c:Nat} (hl:T.length<=6) (hc:c<=a+16):waC T ts o a c<2 ^ 100000:=by
 have h7:∀h,h<8->bB h<2 ^ 1000:=by decide +kernel
 refine Yp (Yw ?_ (h7 (T.length+1) (by omega))) (Nat.pow_le_pow_right (by decide) (by decide))
 cases o with
 |none=>exact ZiH _
 |some v=>exact ZeL _ _ _ _ hc
theorem ZdO {f:Addr}{fd:FuncData}{n:Nat} (F:Fun K "ways_at" "Holding.ways_at" ZH f fd) (GM_Holding_ways:ZbS P w K mg base "Holding" "ways" (2+n) ["self","v","a","b"] (Zaf n K mg)) (T:Txt K mg):FnOk P w K mg base (CXE P w) (2+n+1) f fd ["self","v","a","b","i"] (Zai (n+1) K mg):=by
 refine F.okX Z6 (λvs H Q E h=>?_) (λcdv A outer s H vs Q E hr h=>?_)
 ·obtain⟨h,T,ts,v,a,c,i,rfl,_⟩:=h;rfl
 obtain⟨h,T',ts,v,a,c,i,rfl,hH,hG,hl,hlt,hai,hic,hc,hv,hn,k1⟩:=h
 refine⟨_,(Ze (ZbY (ZF ZQ (ZaR (K:=K) rfl T.cl_Holding T.n_Holding_young (pv 0)) (pv 1) (λ_ _=>rfl)) (pg_lst (K:=K) rfl (n:=2) rfl (Zaw (Zo (i:=5) Z6.nd rfl (Or.inl rfl)) (Zaw (Zo (i:=6) Z6.nd rfl (Or.inl rfl)) ZdY))))
   (Zg (Zy (Zl ZaN (Zc1 (mg:=mg) rfl GM_Holding_ways (hr.mono (by omega)) Zr (pv 0) (Za (pv 5) (Za (pv 2) (Za (Zl ZaZ (pv 4) Zd) Zb)))) (Zc1 (mg:=mg) rfl GM_Holding_ways (hr.mono (by omega)) Zr (pv 0) (Za (pv 6) (Za (Zl Zad (pv 4) Zd) (Za (pv 3) Zb)))))))),?_⟩
 obtain⟨dx,fs,kvs,h1,⟨f1,f2,f3,f4,f5,f6,f7⟩,h3,h4,h5,h6,h7⟩:=id hH
 obtain⟨_,ns,hT⟩:=id hG
 have eN:=hT.1
 have hw:=way_lt hT hv
 obtain⟨as,y1,y2,y3⟩:=id h4
 obtain⟨b,hb⟩:∃b,as[v]?=some b:=⟨_,Ye (by omega)⟩
 obtain⟨ah,bh,hA,hB,hab⟩:=y3 v b hb
 obtain rfl:=ahead_one hT hA (kidA_is T' v)
 obtain rfl:=behind_one hT hB (kidB_is T' v)
 obtain⟨n,rfl⟩:∃n',n=n'+1:=⟨n-1,by omega⟩
 walk_at "rd"
 refine⟨dx,fs,h1,_,f3,_,rfl,_,SqL.of y1,V.ref b,ZgT (by rw[YK,hb];rfl),b,rfl,_,SqL.of hab,rfl,_,_,rfl,_,_,rfl,rfl,dx,fs,h1,f5,h,T',ts,kidA T' v,a,i,rfl,hH,hG,hl,hlt,hai,by omega,λq e=>?_,λH1 e1 hH1=>?_⟩
 ·obtain⟨x1,x2,x3⟩:=kidA_some e
  exact⟨x2,by rw[ZL hT (by omega) x3,Yn];omega,λe' he'=>⟨λw=>by omega,λw=>by omega⟩⟩
 obtain⟨dx1,fs1,kvs1,i1,⟨_,_,_,_,j5,_,_⟩,_⟩:=id hH1
 refine⟨dx1,fs1,i1,j5,h,T',ts,kidB T' v,i+1,c,by simp,hH1,hG,hl,hlt,by omega,hc,λq e=>?_,λH2 e2 hH2=>?_⟩
 ·obtain⟨x1,x2,x3⟩:=kidB_some e
  exact⟨x2,by rw[ZL hT (by omega) x3,Yn];omega,λe' he'=>⟨λw=>by omega,λw=>by omega⟩⟩
 refine⟨_,rfl,_,rfl,mulBig (ZhW hl (by omega)) (ZhW hl (by omega)),?_⟩
 have:=k1 H2 (exc_trans e1 e2) hH2
 rw[Int.natCast_mul]at this
 exact this
theorem Ze9 {f:Addr}{fd:FuncData}{n:Nat} (F:Fun K "ways" "Holding.ways" ZY f fd) (GM_Holding_fits:ZbS P w K mg base "Holding" "fits" 1 ["self","v","a","b","i"] (Zbi K mg)) (GM_Holding_ways_at:ZbS P w K mg base "Holding" "ways_at" (2+n) ["self","v","a","b","i"] (Zai n K mg)) (T:Txt K mg):FnOk P w K mg base (CXE P w) (2+n+1) f fd ["self","v","a","b"] (Zaf (n+1) K mg):=by
 refine F.okX Zbk (λvs H Q E h=>?_) (λcdv A outer s H vs Q E hr h=>?_)
 ·obtain⟨h,T,ts,o,a,c,rfl,_⟩:=h;rfl
 obtain⟨h,T',ts,o,a,c,rfl,hH,hG,hl,hlt,hac,hc,ho,k1⟩:=h
 refine⟨_,(Ze (ZR (Zn op_isN (pv 1) Zid (Zp _)) (Zg (Zy Zd)) ZA)
   (Ze (ZR (pt_cmp (ZjR (ZkA hr) (Zbz (Za (pv 1) (Za (pv 2) (Za (pv 3) Zb)))) (ZaR (K:=K) rfl T.cl_Holding T.n_Holding_known (pv 0)))) (Ze (Zc0 (i:=4) ["i","v","a","b","self"] [none,some 1,some 2,some 3,some 0] Zbk.nd rfl (Or.inl rfl) rfl rfl rfl (Zep rfl T.b_range (Za (pv 2) (Za (Zl Zad (pv 3) Zd) Zb))) (λ_ _ _ _ _=>(Zo (i:=0) (show(["i","v","a","b","self"]:List Str).Nodup from by decide +kernel) rfl (Or.inl rfl))) (λ_ _ _ _ _=>Zd0 (Zie (Zc1 (mg:=mg) rfl GM_Holding_fits (hr.mono (by omega)) Zr (pv 4) (Za (pv 1) (Za (pv 2) (Za (pv 3) (Za (pv 0) Zb))))))) (λ_ _ _ _ _=>(pv 0)) ZG)
   (Zg (ZmK (ZkA hr) (ZaR (K:=K) rfl T.cl_Holding T.n_Holding_known (pv 0)) (Zbz (Za (pv 1) (Za (pv 2) (Za (pv 3) Zb)))) (Zm (ZhA rfl) rfl T.b_sum ZkF (Za (ZaQ ["i","v","a","b","self"] [none,some 1,some 2,some 3,some 0] rfl rfl rfl (ZgR (pv 4)) (λ_ _ _ _ _=>(Zo (i:=0) (show(["i","v","a","b","self"]:List Str).Nodup from by decide +kernel) rfl (Or.inl rfl))) (λ_ _ _ _ _=>Zax) (λ_ _ _ _ _=>(Zc1 (mg:=mg) rfl GM_Holding_ways_at (hr.mono (by omega)) Zr (pv 4) (Za (pv 1) (Za (pv 2) (Za (pv 3) (Za (pv 0) Zb)))))) ZG) Zb)) rfl))) ZA)
   (Zg (Zy (ZmJ (ZkA hr) (ZaR (K:=K) rfl T.cl_Holding T.n_Holding_known (pv 0)) (Zbz (Za (pv 1) (Za (pv 2) (Za (pv 3) Zb)))) (λ_ _=>rfl)))))),?_⟩
 obtain⟨_,ns,hT⟩:=id hG
 have eN:=hT.1
 cases o with
 |none =>
  walk_at "rd"
  exact Z3 (λ_=>k1 H (λ_ _ _ z=>z) hH) λz=>absurd rfl z
 |some v =>
  obtain⟨hv,hn,hel⟩:=ho v rfl
  have hw:=way_lt hT hv
  obtain⟨n,rfl⟩:∃n',n=n'+1:=⟨n-1,by omega⟩
  obtain⟨dx,fs,kvs,h1,⟨f1,f2,f3,f4,f5,f6,f7⟩,h3,h4,h5,h6,h7⟩:=id hH
  walk_at "rd"
  refine Z3 (λz=>nomatch z) λ_=>⟨by decide,λp hp=>?_⟩
  have g:=(Zf.refl H).upd (o:=.tup [optN (some v),V.int a,V.int ((c:Int)-1)]) hp
  have hpv:=Zc (H:=H) (a:=p) (o:=.tup [optN (some v),V.int a,V.int ((c:Int)-1)])
  refine⟨dx,fs,g _ _ h1,_,f4,_,rfl,_,.inr ⟨kvs,Zc2 v a c,p,.inl (g _ _ h6),rfl,hpv,rfl⟩,Z3 (λz=>?_) λz=>?_⟩
  ·refine⟨by omega,by omega,by omega,by omega,?_⟩
   rw[show((c:Int)-1+1-(a:Int)).toNat=c-a by omega]
   have hH0:=hH.same g
   generalize upd H p (.tup [optN (some v),V.int a,V.int ((c:Int)-1)])=H0 at g hH0 hpv⊢
   refine Zex (n:=c-a) (λj=>ZbD T' (nth ts) v a c (a+j)) (λj=>V.int ((a+j:Nat):Int)) (Yw (show _<=16 by omega) (by decide)) (λj Hx s hj=>hj) (λHx s=>Yd _) ?_ ?_
   ·rintro j x Hx Hy hj s ⟨rfl,rfl⟩
    rw[show((a:Int)+(j:Int))=((a+j:Nat):Int) by omega]
    have hHy:=hH0.same s
    obtain⟨dx1,fs1,kvs1,i1,⟨_,_,_,_,_,j6,_⟩,_⟩:=id hHy
    walk_at "rd"
    refine⟨dx1,fs1,i1,j6,h,T',ts,v,a,c,a+j,rfl,hHy,hG,hv,by omega,by omega,hc,hel,_,rfl,Z3 (λz=>CF.take hj z rfl s) λz=>CF.skip hj (by simpa using z) s⟩
   ·intro fl H1 s1 zfl
    have eI:((List.range (c-a)).filter λj=>ZbD T' (nth ts) v a c (a+j)).map (λj=>V.int ((a+j:Nat):Int))=((List.range' a (c-a)).filter (ZbD T' (nth ts) v a c)).map (λi=>V.int ((i:Nat):Int)):=by
     rw[List.range'_eq_map_range,List.filter_map,YV];rfl
    rw[eI]
    have gf:=s1.ZbO (o:=.lst (((List.range' a (c-a)).filter (ZbD T' (nth ts) v a c)).map (λi=>V.int ((i:Nat):Int)))) zfl
    have hfl:=Zc (H:=H1) (a:=fl) (o:=.lst (((List.range' a (c-a)).filter (ZbD T' (nth ts) v a c)).map (λi=>V.int ((i:Nat):Int))))
    generalize upd H1 fl (.lst (((List.range' a (c-a)).filter (ZbD T' (nth ts) v a c)).map (λi=>V.int ((i:Nat):Int))))=H2 at gf hfl
    have hH2:=hH0.same gf
    have hIm:∀i∈(List.range' a (c-a)).filter (ZbD T' (nth ts) v a c),a<=i/\i<c:=λi hi=>by
     have:=List.mem_range'_1.mp (YO.mp hi).1;omega
    have hIl:((List.range' a (c-a)).filter (ZbD T' (nth ts) v a c)).length<=16:=Yh (Y2 _ _) (by rw[List.length_range'];omega)
    have hwa:waC T' ts (some v) a c=(((List.range' a (c-a)).filter (ZbD T' (nth ts) v a c)).map λi=>waC T' ts (kidA T' v) a i*waC T' ts (kidB T' v) (i+1) c).sum:=by
     show(Za5 T' (nth ts) (T'.length+1) (some v) a c).length=_
     rw[Zjj]
     congr 1
     refine List.map_congr_left λi _=>?_
     have kw:∀(o:Option Nat),(∀q,o=some q->nth T' q=v/\q<T'.length)->∀a c,(Za5 T' (nth ts) T'.length o a c).length=waC T' ts o a c:=λo ho a c=>by
      cases o with
      |none =>
       obtain⟨k,hk⟩:∃k,T'.length=k+1:=⟨T'.length-1,by omega⟩
       rw[hk];rfl
      |some q =>
       obtain⟨x1,x2⟩:=ho q rfl
       show _=(Za5 T' (nth ts) (T'.length+1) (some q) a c).length
       rw[Zk6 hT (nth ts) T'.length q x2 (by rw[ZL hT (by omega) x1,Yn];omega)]
     rw[kw _ (λq e=>⟨(kidA_some e).2.2,(kidA_some e).2.1⟩),kw _ (λq e=>⟨(kidB_some e).2.2,(kidB_some e).2.1⟩)]
    generalize (List.range' a (c-a)).filter (ZbD T' (nth ts) v a c)=I at hfl hIm hIl hwa
    refine⟨fl,rfl,⟨_,SqL.of hfl⟩,?_⟩
    have nfk:fl≠h.kn:=λz=>by
     obtain⟨_,_,_,_,_,_,_,_,k6,_⟩:=hH2
     rw[z,k6]at hfl;cases hfl
    refine Zbg (n:=I.length) (λk acc Hz=>acc=((I.take k).map λi=>V.int ((waC T' ts (kidA T' v) a i*waC T' ts (kidB T' v) (i+1) c:Nat):Int))/\Za6 K mg Hz h T' ts/\Exc h.kn H2 Hz) (Yw hIl (by decide)) ⟨by simp,hH2,λ_ _ _ z=>z⟩ (λk acc Hz ⟨_,_,ez⟩ hk=>⟨_,_,SqL.of (ez _ _ nfk hfl),Ye (by rw[Yf];exact hk)⟩) (λacc Hz ⟨_,_,ez⟩=>⟨_,SqL.of (ez _ _ nfk hfl),by rw[Yf];exact Yd _⟩) ?_ ?_
    ·rintro k x acc Hz Hw hk hla ⟨rfl,hHz,ez⟩ ⟨rfl,hx⟩
     have ex:=hx _ (SqL.of (ez _ _ nfk hfl))
     rw[YK,Ye hk]at ex
     cases ex
     obtain⟨dx1,fs1,kvs1,i1,⟨_,_,_,_,_,_,j7⟩,_⟩:=id hHz
     have hi:=hIm _ (YT hk)
     walk_at "rd"
     refine⟨dx1,fs1,i1,j7,h,T',ts,v,a,c,I[k],rfl,hHz,hG,hl,hlt,hi.1,hi.2,hc,hv,by omega,λH3 e3 hH3=>CA.take hk hla ⟨?_,hH3,exc_trans ez e3⟩⟩
     have et:I.take (k+1)=I.take k++[I[k]]:=by rw[Y7,Ye hk];rfl
     rw[et,YM];rfl
    ·rintro lr acc Hz ⟨rfl,hHz,ez⟩ _ hlr
     rw[List.take_length]
     have gl:=(Zf.refl Hz).upd (o:=.lst (I.map λi=>V.int ((waC T' ts (kidA T' v) a i*waC T' ts (kidB T' v) (i+1) c:Nat):Int))) hlr
     have hHl:=hHz.same gl
     have hlv:=Zc (H:=Hz) (a:=lr) (o:=.lst (I.map λi=>V.int ((waC T' ts (kidA T' v) a i*waC T' ts (kidB T' v) (i+1) c:Nat):Int)))
     generalize upd Hz lr (.lst (I.map λi=>V.int ((waC T' ts (kidA T' v) a i*waC T' ts (kidB T' v) (i+1) c:Nat):Int)))=H4 at gl hHl hlv⊢
     obtain⟨dx4,fs4,kvs4,i1,i2,i3,i4,i5,i6,i7⟩:=id hHl
     obtain⟨j1,j2,j3,j4,j5,j6,j7⟩:=id i2
     refine⟨lr,rfl,I.map (λi=>((waC T' ts (kidA T' v) a i*waC T' ts (kidB T' v) (i+1) c:Nat):Int)),SqL.of (by rw[hlv,YV];rfl),dx4,fs4,i1,_,j4,by decide,λp2 hp2=>?_⟩
     have esum:(I.map λi=>((waC T' ts (kidA T' v) a i*waC T' ts (kidB T' v) (i+1) c:Nat):Int)).sum=((waC T' ts (some v) a c:Nat):Int):=by
      rw[hwa,Zd7]
     rw[esum]
     have g5:=(Zf.refl H4).upd (o:=.tup [optN (some v),V.int a,V.int ((c:Int)-1)]) hp2
     have hp2v:=Zc (H:=H4) (a:=p2) (o:=.tup [optN (some v),V.int a,V.int ((c:Int)-1)])
     have hH5:=hHl.same g5
     have k5:=g5 _ _ i6
     have x5:=g5 _ _ i1
     generalize upd H4 p2 (.tup [optN (some v),V.int a,V.int ((c:Int)-1)])=H5 at g5 hp2v hH5 k5 x5⊢
     have hH6:=hH5.put k5 i7 hv (a:=a) (c:=c) (by omega) hc
     have nx:h.x≠h.kn:=λz=>by rw[z,k5]at x5;cases x5
     refine⟨_,rfl,_,.inr ⟨kvs4,Zc2 v a c,p2,k5,rfl,hp2v,i7.few hl hlt,rfl⟩,dx4,fs4,by rw[Zh nx];exact x5,_,j4,by decide,λp3 hp3=>?_⟩
     have g7:=(Zf.refl (upd H5 h.kn (.dT (putK kvs4 (Zc2 v a c) (.int (waC T' ts (some v) a c:Nat)))))).upd (o:=.tup [optN (some v),V.int a,V.int ((c:Int)-1)]) hp3
     refine⟨_,rfl,_,.inr ⟨_,Zc2 v a c,p3,.inl (g7 _ _ Zc),rfl,Zc,by rw[ZhO,Yc rfl]⟩,k1 _ (λb u nn z=>?_) (hH6.same g7)⟩
     refine g7 _ _ ?_
     rw[Zh nn]
     exact g5 _ _ (gl _ _ (ez b u nn (gf _ _ (g _ _ z))))
  ·cases e:Za3 kvs (Zc2 v a c)with
   |none=>rw[e]at z;exact absurd rfl z
   |some w =>
    have hw2:=h7.2.2 v a c w e
    subst hw2
    refine⟨dx,fs,g _ _ h1,_,f4,by decide,λp1 hp1=>⟨_,rfl,_,.inr ⟨kvs,Zc2 v a c,p1,.inl ((g.ZbO hp1) _ _ h6),rfl,Zc,e.symm⟩,k1 _ (λb o n z=>(g.ZbO hp1) b o z) (hH.same (g.ZbO hp1))⟩⟩
theorem excF {x:Addr}{H H1:Hp}{ho ho1:HO}{b:Addr} (e:Exc x H H1) (hx:H x=some ho) (hx1:H1 x=some ho1) (z:H1 b=none):H b=none:=by
 cases h:H b with
 |none=>rfl
 |some u =>
  by_cases y:b=x
  ·subst y;rw[hx1]at z;cases z
  ·rw[e b u y h]at z;cases z
theorem Zk9 {H:Hp}{x C dx y:Addr}{fs:List (Str×V)}{o:HO}{T:List Int} (h:YoungAt H y T) (hx:H x=some (.ins C dx fs)):YoungAt (upd H x o) y T:=by
 obtain⟨as,h1,h2,h3⟩:=h
 have n2:∀{l:Addr}{xs:List V},H l=some (.lst xs)->l≠x:=λ{l xs} e z=>by rw[z,hx]at e;cases e
 exact⟨as,by rw[Zh (n2 h1)];exact h1,h2,λv a e=>let ⟨ah,bh,p1,p2,p3⟩:=h3 v a e;⟨ah,bh,p1,p2,by rw[Zh (n2 p3)];exact p3⟩⟩
theorem youngS {H H':Hp}{y:Addr}{T:List Int} (h:YoungAt H y T) (s:Zf H H'):YoungAt H' y T:=by
 obtain⟨as,h1,h2,h3⟩:=h
 exact⟨as,s _ _ h1,h2,λv a e=>let ⟨ah,bh,p1,p2,p3⟩:=h3 v a e;⟨ah,bh,p1,p2,s _ _ p3⟩⟩
theorem Zla {H:Hp}{x C dx t:Addr}{fs:List (Str×V)}{o:HO}{ys:List V} (h:ZeF H t ys) (hx:H x=some (.ins C dx fs)):ZeF (upd H x o) t ys:=by
 obtain⟨ob,o1,o2⟩:=h
 exact⟨ob,o1,by rw[Zh (λz=>by rw[z,hx]at o2;cases o2)];exact o2⟩
theorem Zdu {f:Addr}{fd:FuncData} (F:Fun K "__init__" "Holding.__init__" ZD f fd) (ZeM:Callee P w K mg base "tree_of" 2 ["row"] (sp_tree_of K mg)) (ZdP:Callee P w K mg base "young_of" 1 ["tree"] (sp_young_of K mg)) (T:Txt K mg):FnOk P w K mg base (CXE P w) 3 f fd ["self","row","text"] (Zat K mg):=by
 refine F.okX Zdt (λvs H Q E h=>?_) (λcdv A outer s H vs Q E hr h=>?_)
 ·obtain⟨x,dx,r,tx,ns,ts,rfl,_⟩:=h;rfl
 obtain⟨x,dx,r,tx,ns,ts,rfl,hx,hr0,htx,hl,hrE,k1⟩:=h
 refine⟨_,(Ze (Zfl (K:=K) rfl T.cl_Holding T.n_Holding_text (pv 0) (pv 2))
   (Ze (Zfl (K:=K) rfl T.cl_Holding T.n_Holding_tree (pv 0) (Zi ZeM (hr.mono (by decide)) rfl Zr (Za (pv 1) Zb)))
   (Ze (Zfl (K:=K) rfl T.cl_Holding T.n_Holding_young (pv 0) (Zi ZdP (hr.mono (by decide)) rfl Zr (Za (ZaR (K:=K) rfl T.cl_Holding T.n_Holding_tree (pv 0)) Zb)))
   (Zg (Zfl (K:=K) rfl T.cl_Holding T.n_Holding_known (pv 0) ZkZ))))),?_⟩
 have exU:∀{Hx:Hp}{o:HO},Exc x H Hx->Exc x H (upd Hx x o):=λ{Hx o} e b u n z=>by rw[Zh n];exact e b u n z
 refine Zay (fun σ Hx=>σ=[some (.ref x),some (.ref r),some (.ref tx)]/\Hx x=some (.ins (cHo mg) dx (Zbc (Str.ofString "text") (.ref tx) []))/\Exc x H Hx) (λR hR=>?_) ?_
 ·walk_at "rd"
  exact⟨dx,[],hx,by decide,hR _ _ ⟨rfl,Zc,exU λ_ _ _ z=>z⟩⟩
 rintro σ H1 ⟨rfl,f1,e1⟩
 have l1:=Zbe (Str.ofString "text") (.ref tx) []
 generalize hA:Zbc (Str.ofString "text") (.ref tx) []=fsA at f1 l1
 refine Zay (fun σ Hx=>∃t T,σ=[some (.ref x),some (.ref r),some (.ref tx)]/\Zk ns T/\ZeF Hx t (T.map V.int)/\Hx x=some (.ins (cHo mg) dx (Zbc (Str.ofString "tree") (.ref t) fsA))/\Exc x H Hx) (λR hR=>?_) ?_
 ·walk_at "rd"
  exact⟨r,ns,rfl,hrE _ e1,by omega,λt T H2 hT s2 ht=>⟨dx,fsA,s2 _ _ f1,Yw l1 (by decide),hR _ _ ⟨t,T,rfl,hT,Zla ht (s2 _ _ f1),Zc,exU λb o n z=>s2 _ _ (e1 b o n z)⟩⟩⟩
 clear f1 e1 H1
 rintro σ H1 ⟨t,T',rfl,hT,ht,f1,e1⟩
 have eN:=hT.1
 have l2:=Zbe (Str.ofString "tree") (.ref t) fsA
 generalize hB:Zbc (Str.ofString "tree") (.ref t) fsA=fsB at f1 l2
 have t2:fsB.lookup (Str.ofString "tree")=some (.ref t):=by rw[<-hB,Zbd,Yc rfl]
 refine Zay (fun σ Hx=>∃y,σ=[some (.ref x),some (.ref r),some (.ref tx)]/\ZeF Hx t (T'.map V.int)/\YoungAt Hx y T'/\Hx x=some (.ins (cHo mg) dx (Zbc (Str.ofString "young") (.ref y) fsB))/\Exc x H Hx) (λR hR=>?_) ?_
 ·walk_at "rd"
  exact⟨dx,fsB,f1,_,t2,t,T',rfl,ht.sq,⟨by omega,ns,hT⟩,λy H2 zy hY s2=>⟨dx,fsB,s2 _ _ f1,Yw (Yh l2 (Nat.succ_le_succ l1)) (by decide),hR _ _ ⟨y,rfl,Zla (ht.same s2) (s2 _ _ f1),Zk9 hY (s2 _ _ f1),Zc,exU λb o n z=>s2 _ _ (e1 b o n z)⟩⟩⟩
 clear f1 e1 ht H1
 rintro σ H1 ⟨y,rfl,ht,hY,f1,e1⟩
 have l3:=Zbe (Str.ofString "young") (.ref y) fsB
 generalize hC:Zbc (Str.ofString "young") (.ref y) fsB=fsC at f1 l3
 walk_at "rd"
 intro k zk
 have g:=(Zf.refl H1).upd (o:=.dT []) zk
 have nkx:k≠x:=λz=>by rw[z,f1]at zk;cases zk
 refine⟨dx,fsC,g _ _ f1,Yw (Yh l3 (Nat.succ_le_succ (Yh l2 (Nat.succ_le_succ l1)))) (by decide),?_⟩
 have e2:Exc x H (upd (upd H1 k (.dT [])) x (.ins (cHo mg) dx (Zbc (Str.ofString "known") (.ref k) fsC))):=exU λb o n z=>g _ _ (e1 b o n z)
 refine k1 ⟨x,t,y,tx,k⟩ T' _ rfl (excF e1 hx f1 zk) e2 hT ⟨dx,_,[],Zc,?_,Zla (ht.same g) (g _ _ f1),Zk9 (youngS hY g) (g _ _ f1),?_,by rw[Zh nkx,Zc],List.nodup_nil,(λk hk=>nomatch hk),λv a c w e=>nomatch e⟩
 ·subst hC hB hA
  refine⟨?_,?_,?_,?_,?_,?_,?_⟩<;>(repeat (first|rw[Zbd,Ya (by decide)]|rw[Zbd,Yc rfl]))<;>rfl
 ·have ntx:tx≠x:=λz=>by rcases htx with h|h<;>(rw[z,hx]at h;cases h)
  exact htx.elim (λh=>.inl (e2 _ _ ntx h)) λh=>.inr (e2 _ _ ntx h)
theorem Zf9 {f:Addr}{fd:FuncData} (F:Fun K "many_loose" "many_loose" Zap f fd) (Zcu:Callee P w K mg base "need_loose" 2 ["row","text"] (Zb0 K mg)) (GI_Holding:Zg8 P w K mg base "Holding" 3 ["self","row","text"] (Zat K mg)) (GM_Holding_ways:ZbS P w K mg base "Holding" "ways" 22 ["self","v","a","b"] (Ze5 K mg)) (T:Txt K mg):FnOk P w K mg base (CXE P w) 23 f fd ["row","text"] (Za7 K mg):=by
 refine F.okX Zdz (λvs H Q E h=>?_) (λcdv A outer s H vs Q E hr h=>?_)
 ·obtain⟨r,tx,ns,ts,rfl,_⟩:=h;rfl
 obtain⟨r,tx,ns,ts,rfl,hr0,htx,h0,hl,hlt,k1⟩:=h
 refine⟨_,(Ze (ZaK (Zi Zcu (hr.mono (by decide)) rfl ZiY (Za (pv 0) (Za (pv 1) Zb))))
   (Ze (Zt (i:=2) Zdz.nd rfl (Or.inl rfl) (ZkW (mg:=mg) rfl GI_Holding (hr.mono (by decide)) rfl Zr (Za (pv 0) (Za (pv 1) Zb))))
   (Zg (Zy (Zc1 (mg:=mg) rfl GM_Holding_ways (hr.mono (by decide)) Zr (pv 2) (Za (pe_bmH PySem.F.slot_tuple_index PySem.F.type_tuple_index (ZjT (K:=K) rfl) (ZaR (K:=K) rfl T.cl_Holding T.n_Holding_tree (pv 2)) (Za (ZcN Zbh Zd) Zb)) (Za Zd (Za (Zl ZaZ (Zm (Zq (K:=K) rfl) rfl T.b_len Yv (Za (pv 1) Zb)) Zd) Zb)))))))),?_⟩
 have eL:(ts.map V.int).length=ts.length:=Yf ..
 walk_at "rd"
 refine⟨r,tx,ns,ts,rfl,ZeK hr0,ZeK htx,h0,hl,hlt,λx dx zx zdx ne=>?_⟩
 have g:=((Zf.refl H).upd (o:=.own x) zdx).ZbO (o:=.ins (cHo mg) dx []) (by rw[Zh (Ne.symm ne)];exact zx)
 have hxv:=Zc (H:=upd H dx (.own x)) (a:=x) (o:=.ins (cHo mg) dx [])
 have hr1:(upd (upd H dx (.own x)) x (.ins (cHo mg) dx [])) r=some (.lst (ns.map V.int))\/(upd (upd H dx (.own x)) x (.ins (cHo mg) dx [])) r=some (.tup (ns.map V.int)):=hr0.elim (λe=>.inl (g _ _ e)) λe=>.inr (g _ _ e)
 have htx1:(upd (upd H dx (.own x)) x (.ins (cHo mg) dx [])) tx=some (.lst (ts.map V.int))\/(upd (upd H dx (.own x)) x (.ins (cHo mg) dx [])) tx=some (.tup (ts.map V.int)):=htx.elim (λe=>.inl (g _ _ e)) λe=>.inr (g _ _ e)
 refine⟨x,dx,r,tx,ns,ts,rfl,hxv,ZeK hr1,htx1,hl,λHx e=>ZeK (hr1.elim (λh=>.inl (e _ _ (λz=>by rw[z,hxv]at h;cases h) h)) λh=>.inr (e _ _ (λz=>by rw[z,hxv]at h;cases h) h)),λa T' H2 ax zkn e2 hT hH=>?_⟩
 subst ax
 have sF:Zf H H2:=λb o z=>e2 b o (Zx z zx) (g b o z)
 have eN:=hT.1
 have hG:ZgB T':=⟨by omega,ns,hT⟩
 have hm1:=top_in hT _ 0 (by omega) (Yd _)
 have ht:=List.idxOf_lt_length_of_mem hm1
 have ht2:nth T' (T'.idxOf (-1))=-1:=by
  unfold nth
  rw[Yr,Ye ht]
  simp
 obtain⟨dx2,fs,kvs,h1,⟨f1,f2,f3,f4,f5,f6,f7⟩,h3,h4,h5,h6,h7⟩:=id hH
 have htx2:H2 tx=some (.lst (ts.map V.int))\/H2 tx=some (.tup (ts.map V.int)):=htx.elim (λe=>.inl (sF _ _ e)) λe=>.inr (sF _ _ e)
 refine⟨rfl,dx2,fs,h1,f5,dx2,fs,h1,_,f2,⟨_,rfl,_,h3⟩,_,rfl,T',h3.sq,hm1,_,ZeK htx2,?_⟩
 rw[eL]
 refine⟨a,T',ts,some (T'.idxOf (-1)),0,ts.length,rfl,hH,hG,by omega,hlt,by omega,Yd _,λv e=>?_,λH3 e3 hH3=>k1 T' H3 hT λb o z=>e3 b o (Zx z (g.free zkn)) (sF _ _ z)⟩
 cases e
 refine⟨ht,?_,λe he=>by omega⟩
 show 2*(T'.length-(way T' (T'.idxOf (-1))).length)+1<=19
 omega
theorem ZfH {f:Addr}{fd:FuncData} (F:Fun K "_law_either" "_law_either" Zaa f fd) (Zj:Callee P w K mg base "_law_take" 1 ["pot","many"] (Z5 K mg)) (T:Txt K mg):FnOk P w K mg base (CXE P w) 2 f fd ["pot","some"] (ZaT K mg):=by
 refine F.okX ZfG (λvs H Q E h=>?_) (λcdv A outer s H vs Q E hr h=>?_)
 ·obtain⟨p,r,xs,rfl,_⟩:=h;rfl
 obtain⟨p,r,xs,rfl,hP,nrp,hr1,hn,k1⟩:=h
 refine⟨_,(Zg (Zy (ZF Zcm (Zbz (Za (Za0 (ZdK (K:=K) rfl) rfl T.b_list Zg2 (Za (pv 1) Zb)) (Za (Za0 (Zgw (K:=K) rfl) rfl T.b_tuple Zfs (Za (pv 1) Zb)) Zb))) (Zi Zj (hr.mono (by decide)) rfl Zr (Za (pv 0) (Za Zd Zb))) (λ_ _=>rfl)))),?_⟩
 walk_at "rd"
 refine⟨_,.inl (SqL.of hr1),λl hl=>?_⟩
 have g1:=(Zf.refl H).upd (o:=.lst xs) hl
 refine⟨_,.inl ⟨SqL.of (g1 _ _ hr1),λl2 hl2=>⟨by decide,λc hc=>?_⟩⟩⟩
 have g2:=(Zf.refl _).upd (o:=.tup xs) hl2
 have g3:=(Zf.refl _).upd (o:=.tup [V.ref l,V.ref l2]) hc
 have gg:=(g1.trans g2).trans g3
 have hl3:=(g2.trans g3) _ _ (Zc (H:=H) (a:=l) (o:=.lst xs))
 have hl23:=g3 _ _ (Zc (a:=l2) (o:=.tup xs) (H:=upd H l (.lst xs)))
 have nlp:l≠p:=hP.ne hl
 have nl2p:l2≠p:=(hP.same g1).ne hl2
 have ncp:c≠p:=(hP.same (g1.trans g2)).ne hc
 refine⟨p,_,rfl,by decide,by decide,hP.same gg,λd H2 d0 d1 P2 e2=>⟨_,d,rfl,SqT.of (e2 _ _ ncp Zc),?_⟩⟩
 have ex:=(Zf.refl H).Zgv.same gg |>.trans e2
 rcases(by omega:d=0\/d=1)with rfl|rfl
 ·exact⟨_,rfl,k1 l H2 hl (.inl (e2 _ _ nlp hl3)) P2 ex⟩
 ·exact⟨_,rfl,k1 l2 H2 (g1.free hl2) (.inr (e2 _ _ nl2p hl23)) P2 ex⟩
theorem Zhe {f:Addr}{fd:FuncData} (F:Fun K "_law_pair" "_law_pair" ZaJ f fd) (Zj:Callee P w K mg base "_law_take" 1 ["pot","many"] (Z5 K mg)) (Zak:Callee P w K mg base "_law_row" 2 ["pot","most"] (sp__law_row K mg)) (T:Txt K mg):FnOk P w K mg base (CXE P w) 3 f fd ["pot","most","wide"] (Zcs K mg):=by
 refine F.okX Zbp (λvs H Q E h=>?_) (λcdv A outer s H vs Q E hr h=>?_)
 ·obtain⟨p,m,w,rfl,_⟩:=h;rfl
 obtain⟨p,most,wide,rfl,m1,m2,w1,w2,hP,k1⟩:=h
 refine⟨_,(Ze (Zt (i:=3) Zbp.nd rfl (Or.inl rfl) (Zbf ZbR (Zl ZdH (Zi Zak (hr.mono (by decide)) rfl Zr (Za (pv 0) (Za (pv 1) Zb))) (ZaL (Za (Zi Zj (hr.mono (by decide)) rfl Zr (Za (pv 0) (Za Zd Zb))) Zb))) ZbP (ZbQ (pv 1))))
   (Ze (Zt (i:=4) Zbp.nd rfl (Or.inl rfl) (Zi Zak (hr.mono (by decide)) rfl Zr (Za (pv 0) (Za (pv 2) Zb))))
   (Ze (ZR (Zn Zdx (Zi Zj (hr.mono (by decide)) rfl Zr (Za (pv 0) (Za Zd Zb))) Zd (Zp _)) (Zg (Zc0 (i:=4) ["turn","pot"] [none,some 0] Zbp.nd rfl (Or.inl rfl) rfl rfl rfl (ZI rfl T.b_range (Za (Zi Zj (hr.mono (by decide)) rfl Zr (Za (pv 0) (Za (Zl Zad (pv 2) Zd) Zb))) Zb)) (λ_ _ _ _ _=>(Zo (i:=0) (show(["turn","pot"]:List Str).Nodup from by decide +kernel) rfl (Or.inl rfl))) (λ_ _ _ _ _=>Zax) (λ_ _ _ _ _=>(Zi Zj (hr.mono (by decide)) rfl Zr (Za (pv 1) (Za Zd Zb)))) ZG)) ZA)
   (Zg (Zy (Zbz (Za (pv 3) (Za (pv 4) Zb)))))))),?_⟩
 walk_at "rd"
 refine⟨p,most,rfl,by omega,by omega,hP,λr0 ns0 H1 z0 l0 h0 P1 e1=>⟨p,3,rfl,by decide,by decide,P1,λd H2 d0 d1 P2 e2=>⟨by decide,λq1 hq1=>⟨r0,rfl,ns0.map V.int,?_,[V.int d],Zc,?_,λq2 hq2=>⟨_,SqL.of Zc,λq3 hq3=>?_⟩⟩⟩⟩⟩
 ·have h2:=e2 _ _ (hP.ne z0) h0
  rw[Zh (λz=>by rw[z,hq1]at h2;cases h2)];exact h2
 ·exact YQ (Yw (show _<=1000 by simp;omega) (by decide))
 have ec:Zcl (ns0.map V.int++[V.int d]) none (some most)=((ns0++[d]).take most.toNat).map V.int:=by
  have:=Zg5 (ns0.map V.int++[V.int d]) most.toNat
  rw[show((most.toNat:Nat):Int)=most by omega]at this
  rw[this];simp[List.map_take]
 rw[ec]
 have g1:=(Zf.refl H2).upd (o:=.lst [V.int d]) hq1
 have g2:=(Zf.refl _).upd (o:=.lst (ns0.map V.int++[V.int d])) hq2
 have g3:=(Zf.refl _).upd (o:=.lst (((ns0++[d]).take most.toNat).map V.int)) hq3
 have gg:=(g1.trans g2).trans g3
 have h3:upd (upd (upd H2 q1 (.lst [V.int d])) q2 (.lst (ns0.map V.int++[V.int d]))) q3 (.lst (((ns0++[d]).take most.toNat).map V.int)) q3=some (.lst (((ns0++[d]).take most.toNat).map V.int)):=Zc
 have zq3:H2 q3=none:=(g1.trans g2).free hq3
 have ee:Exc p H H2:=e1.trans e2
 have zq0:H q3=none:=ee.free (P2.ne zq3) zq3
 have nq3:q3≠p:=P2.ne zq3
 have l1:0<((ns0++[d]).take most.toNat).length:=by simp;omega
 have l2:(((ns0++[d]).take most.toNat).length:Int)<=most:=by simp;omega
 generalize (ns0++[d]).take most.toNat=ns at h3 l1 l2 gg⊢
 generalize upd (upd (upd H2 q1 (.lst [V.int d])) q2 (.lst (ns0.map V.int++[V.int d]))) q3 (.lst (ns.map V.int))=H3 at h3 gg⊢
 have P3:=P2.same gg
 have e3:Exc p H H3:=ee.same gg
 refine⟨p,wide,rfl,by omega,by omega,P3,λx0 ts0 H4 zx lx hx P4 e4=>⟨p,3,rfl,by decide,by decide,P4,λd2 H5 _ _ P5 e5=>⟨rfl,?_⟩⟩⟩
 have e35:=e4.trans e5
 have e05:=e3.trans e35
 have h5:=e35 _ _ nq3 h3
 have nxp:x0≠p:=P3.ne zx
 have zx0:H x0=none:=e3.free nxp zx
 refine Z3 (λ_=>?_) λ_=>?_
 ·refine⟨p,wide+1,rfl,by omega,by omega,P5,λd3 H6 d4 d5 P6 e6=>⟨d3,rfl,by omega,by omega,?_⟩⟩
  obtain⟨n3,rfl⟩:=Y4 d4
  rw[show((n3:Nat):Int).toNat=n3 by omega]
  refine Zbg (n:=n3) (λj acc Hz=>∃ts:List Int,acc=ts.map V.int/\ts.length=j/\Zu Hz p/\Exc p H6 Hz) (Yw (show _<=1000 by omega) (by decide)) ⟨[],rfl,rfl,P6,(Zf.refl _).Zgv⟩ (λj acc Hz _ hj=>hj) (λacc Hz _=>Yd _) ?_ ?_
  ·rintro j u acc Hz Hw hj hla ⟨ts,rfl,htl,Pz,ez⟩ ⟨rfl,rfl⟩
   walk_at "rd"
   exact⟨p,4,rfl,by decide,by decide,Pz,λd6 H7 _ _ P7 e7=>CA.take hj hla ⟨ts++[d6],by simp,by simp[htl],P7,ez.trans e7⟩⟩
  ·rintro x1 acc Hz ⟨ts,rfl,htl,Pz,ez⟩ _ zx1
   have gl:=(Zf.refl Hz).upd (o:=.lst (ts.map V.int)) zx1
   refine⟨by decide,λq4 hq4=>?_⟩
   have g4:=(Zf.refl _).upd (o:=.tup [V.ref q3,V.ref x1]) hq4
   have e0z:=(e05.trans e6).trans ez
   exact k1 q4 q3 x1 ns ts _ zq0 (e0z.free (Pz.ne zx1) zx1) l1 l2 (by omega) ((gl.trans g4) _ _ (ez _ _ nq3 (e6 _ _ nq3 h5))) (g4 _ _ Zc) Zc (Pz.same (gl.trans g4)) (e0z.same (gl.trans g4))
 ·refine⟨by decide,λq4 hq4=>?_⟩
  have g4:=(Zf.refl _).upd (o:=.tup [V.ref q3,V.ref x0]) hq4
  exact k1 q4 q3 x0 ns ts0 _ zq0 zx0 l1 l2 lx (g4 _ _ h5) (g4 _ _ (e5 _ _ nxp hx)) Zc (P5.same g4) (e05.same g4)
theorem Zea {N:Nat}{r:List Int}{x:Int}:Ris N (r++[x])↔Ris N r/\(0<=x/\x<(N:Int))/\∀y∈r,y<x:=by
 unfold Ris
 rw[List.pairwise_append]
 constructor
 ·rintro⟨h1,h2,_,h3⟩
  exact⟨⟨λy hy=>h1 y (YJ _ hy),h2⟩,h1 x (by simp),λy hy=>h3 y hy x (by simp)⟩
 ·rintro⟨⟨h1,h2⟩,h3,h4⟩
  refine⟨λy hy=>?_,h2,by simp,λy hy z hz=>?_⟩
  ·rcases Yq.mp hy with hy|hy
   ·exact h1 y hy
   ·rw[YF.mp hy];exact h3
  ·rw[YF.mp hz];exact h4 y hy
noncomputable def Zbn:List Int->Int
 |[]=>-1
 |[x]=>x
 |_::y::r=>Zbn (y::r)
theorem ZfI {r:List Int}{x:Int}:Zbn (r++[x])=x:=by
 induction r with
 |nil=>rfl
 |cons y r ih =>
  cases r with
  |nil=>rfl
  |cons z r=>exact ih
theorem Zdq {N:Nat}{r:List Int} (h:Ris N r):-1<=Zbn r/\Zbn r<N/\∀x,0<=x->((∀y∈r,y<x)↔Zbn r<x):=by
 rcases List.eq_nil_or_concat r with rfl|⟨r,z,rfl⟩
 ·exact⟨by decide,by show(-1:Int) < _;omega,λx hx=>⟨λ_=>by show(-1:Int)<x;omega,λ_ y hy=>nomatch hy⟩⟩
 ·rw[List.concat_eq_append]at h⊢
  obtain⟨h1,h2,h3⟩:=Zea.mp h
  rw[ZfI]
  refine⟨by omega,h2.2,λx hx=>⟨λk=>k z (by simp),λk y hy=>?_⟩⟩
  rcases Yq.mp hy with hy|hy
  ·have:=h3 y hy;omega
  ·rw[YF.mp hy];exact k
noncomputable def onL (N:Nat) (r:List Int):List (List Int):=(List.range ((N:Int)-(Zbn r+1)).toNat).map λ(j:Nat)=>r++[Zbn r+1+(j:Int)]
theorem Zfo {N:Nat}{r q:List Int} (h:Ris N r):q∈onL N r↔∃x,q=r++[x]/\Ris N q:=by
 obtain⟨l1,l2,l3⟩:=Zdq h
 unfold onL
 rw[YG]
 constructor
 ·rintro⟨j,hj,rfl⟩
  have:=YC.mp hj
  exact⟨_,rfl,Zea.mpr ⟨h,⟨by omega,by omega⟩,(l3 _ (by omega)).mpr (by omega)⟩⟩
 ·rintro⟨x,rfl,hq⟩
  obtain⟨_,h2,h3⟩:=Zea.mp hq
  have:=(l3 x h2.1).mp h3
  exact⟨(x-(Zbn r+1)).toNat,YC.mpr (by omega),by congr 2;omega⟩
theorem ZmP {N:Nat}{r:List Int} (h:Ris N r):(onL N r).length<=N:=by
 obtain⟨l1,l2,_⟩:=Zdq h
 unfold onL
 rw[Yf,Y5];omega
theorem ZC.app {H:Hp}{g:Addr}{gs qs:List (List Int)}{acc:List V}{xs:List V} (hg:H g=some (.lst xs)) (h:ZC H g gs) (t:ZaS H acc qs):ZC (upd H g (.lst (xs++acc))) g (gs++qs):=by
 obtain⟨as,e1,l1,k1⟩:=h
 obtain⟨bs,rfl,l2,k2⟩:=t
 rw[hg]at e1
 cases e1
 have ng:∀c ys,H c=some (.tup ys)->c≠g:=λc ys e z=>by rw[z,hg]at e;cases e
 refine⟨as++bs,by rw[Zc,YM],by simp[l1,l2],λi h1 h2=>?_⟩
 by_cases c:i<as.length
 ·rw[Y9 c,Y9 (by omega)]
  have:=k1 i c (by omega)
  rw[Zh (ng _ _ this)];exact this
 ·rw[Ja (by omega),Ja (by omega)]
  simp at h1 h2
  have:=k2 (i-as.length) (by omega) (by omega)
  rw[Zh (ng _ _ this)]
  simp only[l1]at this⊢
  exact this
theorem ZiI {l g:Addr}{rs:List (List Int)}{xs:List V}{H2 Hz:Hp} (tl:ZC H2 l rs) (nlg:l≠g) (hg:H2 g=some (.lst xs)) (ez:Exc g H2 Hz):(∀i H,Zf Hz H->i<rs.length->(Itl K l).go i H)/\(∀H,Zf Hz H->(Itl K l).stop rs.length H)/\∀i x H H' (h:i<rs.length),Zf Hz H->(Itl K l).yld i H x H'->H'=H/\∃a,x=.ref a/\H a=some (.tup (rs[i].map V.int)):=by
 refine ZC.walk (K:=K) ?_
 obtain⟨as,e,h1,h2⟩:=tl
 refine⟨as,ez _ _ nlg e,h1,λi i1 i2=>ez _ _ (λz=>?_) (h2 i i1 i2)⟩
 have:=h2 i i1 i2
 rw[z,hg]at this;cases this
theorem on_nd {N:Nat}{rs:List (List Int)} (nd:rs.Nodup) (h:∀r∈rs,Ris N r):(rs.flatMap (onL N)).Nodup:=by
 unfold List.Nodup
 rw[List.pairwise_flatMap]
 refine⟨λr _=>?_,nd.imp_of_mem λ{a b} ha hb n x hx y hy e=>?_⟩
 ·unfold onL
  rw[List.pairwise_map]
  refine List.Pairwise.imp (λ{i j} n e=>?_) (List.nodup_range (n:=((N:Int)-(Zbn r+1)).toNat))
  have:=List.append_cancel_left e
  simp at this
  exact n (by omega)
 ·obtain⟨u,rfl,_⟩:=(Zfo (h a ha)).mp hx
  obtain⟨v,e2,_⟩:=(Zfo (h b hb)).mp hy
  subst e
  exact n (List.append_inj_left' e2 rfl)
theorem ZmQ {N k:Nat}{rs:List (List Int)} (nd:rs.Nodup) (hN:N<=16) (h:∀r∈rs,r.length=k/\Ris N r):rs.length<=65536:=by
 have h1:rs.length<=((chL N k).map Ze6).length:=Zha nd λr hr=>by
  obtain⟨h1,h2⟩:=h r hr
  obtain⟨S,rfl⟩:=ZhT h2
  exact YG.mpr ⟨S,(Zdp N k S).mpr ⟨by rw[<-h1];simp[Ze6],(ZfD _ _).mp h2⟩,rfl⟩
 rw[Yf,Zfn]at h1
 have h2:=Zfm N k
 have:2 ^ N<=2 ^ 16:=Nat.pow_le_pow_right (by decide) hN
 omega
theorem ZmR {a:Addr}{r:List Int}{many:Nat}{H1:Hp}{Q:VK} (ha:H1 a=some (.tup (r.map V.int))) (hr:r.length<=10) (hm:many<=16) (hR:Ris many r) (hk:∀b acc H5,Zf H1 H5->H5 b=some (.lst acc)->ZaS H5 acc (onL many r)->Q (.ref b) H5):Zft (Itr (Zbn r+1) ((many:Int)-(Zbn r+1)).toNat) (gName 0) tYes (tOp rCatU (tVar 1) (tTup (tCons (tVar 0) tNil))) [none,some (V.ref a)] Q H1:=by
 obtain⟨l1,l2,_⟩:=Zdq hR
 refine Zbg (n:=((many:Int)-(Zbn r+1)).toNat) (λj acc Hz=>ZaS Hz acc ((List.range j).map λ(j:Nat)=>r++[Zbn r+1+(j:Int)])/\Zf H1 Hz) (Yw (show _<=1000 by omega) (by decide)) ⟨ZaS.nil,Zf.refl _⟩ (λj acc Hz _ hj=>hj) (λacc Hz _=>Yd _) ?_ ?_
 ·rintro j y acc Hz Hw hj hla ⟨tv,sz⟩ ⟨rfl,rfl⟩
  walk_at "rd"
  refine⟨by decide,λq zq=>?_⟩
  have gq:=(Zf.refl Hw).upd (o:=.tup [V.int (Zbn r+1+(j:Int))]) zq
  refine⟨_,gq _ _ (sz _ _ ha),_,Zc,Yh (show _<=100 by simp;omega) (by decide),λu H4 s4 hu=>CA.take hj hla ⟨?_,sz.trans (gq.trans s4)⟩⟩
  rw[YS,YM]
  refine(tv.same (gq.trans s4)).snoc ?_
  rw[hu,YM];rfl
 ·rintro b acc Hz ⟨tv,sz⟩ _ zb
  exact hk b acc _ (sz.ZbO zb) Zc (tv.same ((Zf.refl Hz).upd zb))
theorem ZfJ {f:Addr}{fd:FuncData} (F:Fun K "_law_tuples" "_law_tuples" Zab f fd) (T:Txt K mg):FnOk P w K mg base (CXE P w) 1 f fd ["many","size"] (ZbF K mg):=by
 refine F.okX Z1 (λvs H Q E h=>?_) (λcdv A outer s H vs Q E hr h=>?_)
 ·obtain⟨many,size,rfl,_⟩:=h;rfl
 obtain⟨many,size,rfl,hm,hs,k1⟩:=h
 refine⟨_,(Ze (Zt (i:=2) Z1.nd rfl (Or.inl rfl) (ZaL (Za (Zbz Zb) Zb)))
   (Ze (Zco (ZcW PassesOwn.never rfl (ZI rfl T.b_range (Za (pv 1) Zb)) (Zo (i:=3) Z1.nd rfl (Or.inl rfl)) (Ze (Zt (i:=4) Z1.nd rfl (Or.inl rfl) (ZaL Zb))
   (Ze (Zco (ZcW PassesOwn.never rfl (ZgR (pv 2)) (Zo (i:=5) Z1.nd rfl (Or.inr rfl)) (Zg (ZaK (ZdZ PySem.F.plainAttrs_list PySem.F.slot_list_extend PySem.F.type_list_extend Zjy (pv 4) (Za (ZaQ ["place","one"] [none,some 5] rfl rfl rfl (Zep rfl T.b_range (Za (Zl Zad (ZF Zcm (pe_orT (K:=K) rfl (pv 5) (Zkm (Zbz (Za (ZcN Zbh Zd) Zb)))) (ZcN Zbh Zd) (λ_ _=>rfl)) Zd) (Za (pv 0) Zb))) (λ_ _ _ _ _=>(Zo (i:=0) (show(["place","one"]:List Str).Nodup from by decide +kernel) rfl (Or.inl rfl))) (λ_ _ _ _ _=>Zax) (λ_ _ _ _ _=>(Zl ZmN (pv 1) (Zbz (Za (pv 0) Zb)))) ZG) Zb))))))
   (Zg (Zt (i:=2) Z1.nd rfl (Or.inl rfl) (pv 4)))))))
   (Zg (Zy (pv 2))))),?_⟩
 refine Zay (fun σ Hx=>∃l,σ=[some (.int (many:Int)),some (.int (size:Int)),some (.ref l),none,none,none]/\H l=none/\ZC Hx l [[]]/\Zf H Hx) (λR hR=>?_) ?_
 ·walk_at "rd"
  refine⟨by decide,λp zp=>⟨by decide,λl zl=>hR _ _ ⟨l,rfl,((Zf.refl H).upd zp).free zl,⟨[p],Zc,rfl,λi h1 h2=>?_⟩,((Zf.refl H).upd zp).ZbO zl⟩⟩⟩
  have:i=0:=by simp at h1;omega
  subst this
  exact((Zf.refl _).upd zl) _ _ Zc
 rintro σ H1 ⟨l,rfl,zl,tl,s1⟩
 refine Zay (fun σ Hx=>∃(l:Addr) (rs:List (List Int)) (v3 v4 v5:Option V),σ=[some (.int (many:Int)),some (.int (size:Int)),some (.ref l),v3,v4,v5]/\H l=none/\ZC Hx l rs/\rs.length<=65536/\rs.Nodup/\(∀r,r∈rs↔r.length=size/\Ris many r)/\Zf H Hx) (λR hR=>?_) ?_
 ·walk_at "rd"
  refine⟨by omega,by omega,?_⟩
  rw[Y6]
  refine Zbw (λi σ Hx=>∃(l:Addr) (rs:List (List Int)) (v3 v4 v5:Option V),σ=[some (.int (many:Int)),some (.int (size:Int)),some (.ref l),v3,v4,v5]/\H l=none/\ZC Hx l rs/\rs.length<=65536/\rs.Nodup/\(∀r,r∈rs↔r.length=i/\Ris many r)/\Zf H Hx) ⟨l,[[]],_,_,_,rfl,zl,tl,by decide,List.nodup_cons.mpr ⟨by simp,List.nodup_nil⟩,λr=>?_,s1⟩ ?_ ?_
  ·constructor
   ·intro h
    have:r=[]:=by simpa using h
    subst this
    exact⟨rfl,⟨λx hx=>absurd hx (by simp),List.Pairwise.nil⟩⟩
   ·rintro⟨h,_⟩
    rw[List.length_eq_zero_iff.mp h];simp
  ·clear tl s1 zl l H1
   rintro i σ H1 hi ⟨l,rs,v3,v4,v5,rfl,zl,tl,lr,nd,hrs,s1⟩
   refine Zay (fun σ Hx=>∃g,σ=[some (.int (many:Int)),some (.int (size:Int)),some (.ref l),some (.int (0+(i:Int))),some (.ref g),v5]/\H1 g=none/\Hx g=some (.lst [])/\Zf H1 Hx) (λR hR=>?_) ?_
   ·walk_at "rd"
    exact⟨by decide,λg zg=>hR _ _ ⟨g,rfl,zg,Zc,(Zf.refl H1).upd zg⟩⟩
   rintro σ H2 ⟨g,rfl,zg,hg,s2⟩
   have zg0:H g=none:=s1.free zg
   refine Zay (fun σ Hx=>∃v5,σ=[some (.int (many:Int)),some (.int (size:Int)),some (.ref l),some (.int (0+(i:Int))),some (.ref g),v5]/\ZC Hx g (rs.flatMap (onL many))/\Zf H Hx) (λR hR=>?_) ?_
   ·walk_at "rd"
    have tl2:=tl.same s2
    refine⟨tl2.sq,?_⟩
    have nlg:l≠g:=λz=>by
     obtain⟨as,e,_⟩:=tl
     rw[z,zg]at e;cases e
    refine ZkT (n:=rs.length) (λk σ Hz=>∃v5,σ=[some (.int (many:Int)),some (.int (size:Int)),some (.ref l),some (.int (0+(i:Int))),some (.ref g),v5]/\ZC Hz g ((rs.take k).flatMap (onL many))/\((rs.take k).flatMap (onL many)).length<=16*k/\Exc g H2 Hz) ⟨_,rfl,by simpa using ZC.nil hg,by simp,(Zf.refl H2).Zgv⟩ (λk σ Hz hk ⟨_,_,_,_,ez⟩=>(ZiI tl2 nlg hg ez).1 k Hz (Zf.refl _) hk) (fun σ Hz ⟨_,_,_,_,ez⟩=>(ZiI tl2 nlg hg ez).2.1 Hz (Zf.refl _)) ?_ ?_
    ·rintro k x σ Hz Hz' hk ⟨v5,rfl,tg,lg,ez⟩ y
     obtain⟨rfl,a,rfl,ha⟩:=(ZiI (K:=K) tl2 nlg hg ez).2.2 k x Hz Hz' hk (Zf.refl _) y
     have hR':=((hrs rs[k]).mp (YT hk)).2
     have hl4:=((hrs rs[k]).mp (YT hk)).1
     have etk:rs.take (k+1)=rs.take k++[rs[k]]:=by rw[Y7,Ye hk];rfl
     generalize rs[k]=r at hR' hl4 ha etk
     obtain⟨as,eg,l1',k1'⟩:=id tg
     have ngt:∀c ys,Hz' c=some (.tup ys)->c≠g:=λc ys e z=>by rw[z,eg]at e;cases e
     obtain⟨lb1,lb2,_⟩:=Zdq hR'
     have lon:=ZmP hR'
     -- what is gathered from here on,in any heap that has grown
     have fin:∀(H5:Hp) (b:Addr) (acc:List V),Zf Hz' H5->H5 b=some (.lst acc)->ZaS H5 acc (onL many r)->∃(xs zs:List V),H5 g=some (.lst xs)/\H5 b=some (.lst zs)/\xs.length+zs.length<=sizeLine/\(ZC (upd H5 g (.lst (xs++zs))) g ((rs.take (k+1)).flatMap (onL many))/\((rs.take (k+1)).flatMap (onL many)).length<=16*(k+1)/\Exc g H2 (upd H5 g (.lst (xs++zs)))):=λH5 b acc s5 hb tv=>by
      refine⟨as.map V.ref,acc,s5 _ _ eg,hb,Yh (show _<=2000000 by rw[Yf,l1',tv.len];omega) (by decide),?_,?_,?_⟩
      ·rw[etk,List.flatMap_append]
       have:=ZC.app (s5 _ _ eg) (tg.same s5) tv
       simpa using this
      ·rw[etk,List.flatMap_append,Yy,List.flatMap_singleton]
       omega
      ·exact(ez.same s5).trans Exc.upd
     walk_at "rd"
     have tail:∀(H3:Hp),Zf Hz' H3->Zft (Itr (Zbn r+1) ((many:Int)-(Zbn r+1)).toNat) (gName 0) tYes (tOp rCatU (tVar 1) (tTup (tCons (tVar 0) tNil))) [none,some (V.ref a)] (λx H1=>∃x_2,x=V.ref x_2/\∃x,H1 g=some (HO.lst x)/\∃x_3,H1 x_2=some (HO.lst x_3)/\x.length+x_3.length<=sizeLine/\ZC (upd H1 g (HO.lst (x++x_3))) g (List.flatMap (onL many) (List.take (k+1) rs))/\(List.flatMap (onL many) (List.take (k+1) rs)).length<=16*(k+1)/\Exc g H2 (upd H1 g (HO.lst (x++x_3)))) H3:=λH3 s3=>by
      refine ZmR (s3 _ _ ha) (by omega) hm hR' λb acc H5 s5 hb tv=>?_
      obtain⟨xs,zs,f1,f2,f3,f4⟩:=fin H5 b acc (s3.trans s5) hb tv
      exact⟨b,rfl,xs,f1,zs,f2,f3,f4⟩
     refine⟨ZaO eg,_,.inr (.inl ⟨_,SqT.of ha,rfl⟩),Z3 (λz=>?_) λz=>?_⟩
     ·rcases List.eq_nil_or_concat r with rfl|⟨q,x,rfl⟩
      ·cases z
      ·rw[List.concat_eq_append]at *
       rw[ZfI]at tail lb1 lb2
       exact⟨_,SqT.of ha,_,ZjO q x,x,rfl,by omega,by omega,by omega,by omega,tail _ (Zf.refl _)⟩
     ·have er:r=[]:=by
       cases r with
       |nil=>rfl
       |cons x r=>exact absurd rfl z
      subst er
      exact⟨by decide,λp zp=>⟨_,SqT.of Zc,_,rfl,-1,rfl,by decide,by decide,by omega,by omega,tail _ ((Zf.refl _).upd zp)⟩⟩
    ·rintro σ Hz ⟨v5,rfl,tg,lg,ez⟩
     rw[List.take_length]at tg
     exact hR _ _ ⟨_,rfl,tg,(s1.trans s2).exc zg0 ez⟩
   clear s2 hg H2
   rintro σ H2 ⟨v5,rfl,tg,s2⟩
   walk_at "rd"
   have hm':∀r,r∈rs.flatMap (onL many)↔r.length=i+1/\Ris many r:=λr=>by
    rw[List.mem_flatMap]
    constructor
    ·rintro⟨q,hq,hr'⟩
     obtain⟨h1,h2⟩:=(hrs q).mp hq
     obtain⟨x,rfl,h3⟩:=(Zfo h2).mp hr'
     exact⟨by simp[h1],h3⟩
    ·rintro⟨h1,h2⟩
     rcases List.eq_nil_or_concat r with rfl|⟨q,x,rfl⟩
     ·simp at h1
     ·rw[List.concat_eq_append]at h1 h2⊢
      have h3:=(Zea.mp h2).1
      exact⟨q,(hrs q).mpr ⟨by simp at h1;omega,h3⟩,(Zfo h3).mpr ⟨x,rfl,h2⟩⟩
   have nd':=on_nd nd λr hr=>((hrs r).mp hr).2
   exact⟨zg0,_,tg,ZmQ nd' hm (λr hr=>(hm' r).mp hr),nd',hm',s2⟩
  ·rintro σ Hx ⟨l,rs,v3,v4,v5,rfl,zl,tl,lr,nd,hrs,sx⟩
   exact hR _ _ ⟨l,rs,_,_,_,rfl,zl,tl,lr,nd,hrs,sx⟩
 rintro σ Hx ⟨l,rs,v3,v4,v5,rfl,zl,tl,lr,nd,hrs,sx⟩
 walk_at "rd"
 exact k1 l rs Hx zl tl lr nd hrs sx
theorem ZjY {l:Addr}{rs:List (List Int)}{H1:Hp}{Q:VK}{tt:TT}{σr:L2.St} (P:List Int->Bool) (tl:ZC H1 l rs) (hn:rs.length<=65536)
  (ht:∀(a:Addr) (r:List Int) (H:Hp) (R:Bool->Hp->Prop),r∈rs->Zf H1 H->H a=some (.tup (r.map V.int))->(∀H',Zf H H'->R (P r) H')->tt (some (V.ref a)::σr) H R)
  (hk:∀g H',Zf H1 H'->H1 g=none->ZC H' g (rs.filter P)->Q (.ref g) H'):Zft (Itl K l) (gName 0) tt (tVar 0) (none::σr) Q H1:=by
 obtain⟨w1,w2,w3⟩:=tl.walk (K:=K)
 refine Zbg (n:=rs.length) (λj acc Hz=>ZaS Hz acc ((rs.take j).filter P)/\Zf H1 Hz) (Yw hn (by decide)) ⟨by simpa using ZaS.nil,Zf.refl _⟩ (λj acc Hz ⟨_,s⟩ hj=>w1 j Hz s hj) (λacc Hz ⟨_,s⟩=>w2 Hz s) ?_ ?_
 ·rintro j x acc Hz Hw hj hla ⟨tv,sz⟩ y
  obtain⟨rfl,a,rfl,ha⟩:=w3 j x Hz Hw hj sz y
  have etk:rs.take (j+1)=rs.take j++[rs[j]]:=by rw[Y7,Ye hj];rfl
  refine ht a rs[j] Hw _ (YT hj) sz ha λH' s'=>?_
  refine Z3 (λc=>?_) λc=>CA.skip hj hla ⟨?_,sz.trans s'⟩
  ·walk_at "rd"
   refine CA.take hj hla ⟨?_,sz.trans s'⟩
   rw[etk,List.filter_append,List.filter_cons_of_pos c,List.filter_nil]
   exact(tv.same s').snoc (s' _ _ ha)
  ·rw[etk,List.filter_append,List.filter_cons_of_neg c,List.filter_nil,List.append_nil]
   exact tv.same s'
 ·rintro g acc Hz ⟨tv,sz⟩ _ zg
  rw[List.take_length]at tv
  exact hk g _ (sz.ZbO zg) (sz.free zg) (tv.at zg)
theorem Zfa {f:Addr}{fd:FuncData} (F:Fun K "_law_holding" "_law_holding" Z0 f fd) (ZbT:Callee P w K mg base "_law_tree" 2 ["row"] (sp__law_tree K mg)) (Zb5:Callee P w K mg base "_law_tuples" 1 ["many","size"] (ZbF K mg)) (T:Txt K mg):FnOk P w K mg base (CXE P w) 3 f fd ["row","text"] (ZaA K mg):=by
 refine F.okX ZcP (λvs H Q E h=>?_) (λcdv A outer s H vs Q E hr h=>?_)
 ·obtain⟨r,x,ns,ts,rfl,_⟩:=h;rfl
 obtain⟨r,x,ns,ts,rfl,hr1,hx,n0,n1,n2,k1⟩:=h
 refine⟨_,(Ze (Zt (i:=2) ZcP.nd rfl (Or.inr rfl) (Zi ZbT (hr.mono (by decide)) rfl Zr (Za (pv 0) Zb)))
   (Zg (Zy (ZaQ ["one","tree","text"] [none,some 2,some 1] rfl rfl rfl (ZgR (Zi Zb5 (hr.mono (by decide)) rfl Zr (Za (Zm (Zq (K:=K) rfl) rfl T.b_len Yv (Za (pv 1) Zb)) (Za (Zm (Zq (K:=K) rfl) rfl T.b_len Yv (Za (pv 0) Zb)) Zb)))) (λ_ _ _ _ _=>(Zo (i:=0) (show(["one","tree","text"]:List Str).Nodup from by decide +kernel) rfl (Or.inl rfl))) (λ_ _ _ _ _=>Zd0 (Zn (Ziu (K:=K) rfl hr) (Zi ZbT (hr.mono (by decide)) rfl Zr (Za (ZaQ ["place","text"] [none,some 2] rfl rfl rfl (ZmD (K:=K) rfl (pv 0)) (λ_ _ _ _ _=>(Zo (i:=0) (show(["place","text"]:List Str).Nodup from by decide +kernel) rfl (Or.inl rfl))) (λ_ _ _ _ _=>Zax) (λ_ _ _ _ _=>(ZF (r:=rIxL K) ZQ (pv 1) (pv 0) (λ_ _=>rfl))) ZG) Zb)) (pv 1) (Zp _))) (λ_ _ _ _ _=>(pv 0)) ZG)))),?_⟩
 walk_at "rd"
 refine⟨r,ns,rfl,hr1,by omega,λt es H1 hT s1 ht=>⟨_,.inl (SqL.of (s1 _ _ hx)),_,s1.q hr1,ts.length,ns.length,by rw[Yf,Yf],n2,n1,λl rs H2 zl tl ll nd hrs s2=>⟨l,rfl,tl.sq,?_⟩⟩⟩
 have hin:∀q∈rs,∀y∈q,∃k:Nat,y=k/\k<ts.length:=λq hq y hy=>by
  obtain⟨h1,h2⟩:=((hrs q).mp hq).2.1 y hy
  obtain⟨k,rfl⟩:=Y4 h1
  exact⟨k,rfl,by omega⟩
 refine ZjY (λq=>@decide (Zk (atL ts q) es) (Classical.propDecidable _)) tl (by omega) ?_ ?_
 ·intro a q H3 R hq s3 ha hR
  have lq:=((hrs q).mp hq).1
  walk_at "rd"
  refine⟨⟨_,SqT.of ha⟩,?_⟩
  refine comp_map (n:=q.length) (λj=>V.int (nth (atL ts q) j)) (Yw (show _<=1000 by omega) (by decide)) (λj Hx s hj=>⟨_,_,SqT.of (s _ _ ha),nthV hj⟩) (λHx s=>⟨_,SqT.of (s _ _ ha),by rw[Yf];exact Yd _⟩) ?_ ?_
  ·rintro j y Hx Hy hj s ⟨rfl,hy⟩
   have:=hy _ (SqT.of (s _ _ ha))
   rw[nthV hj]at this
   cases this
   have ej:nth q j=q[j]:=by unfold nth;rw[Yr,Ye hj];rfl
   obtain⟨k,ek,hk⟩:=hin q hq (nth q j) (by rw[ej];exact YT hj)
   have ea:nth (atL ts q) j=nth ts k:=by
    unfold atL
    show((q.map λx=>nth ts x.toNat).getD j 0)=_
    rw[Yr,YK,Ye hj,<-ej,ek]
    simp
   rw[ek]
   walk_at "rd"
   exact⟨_,SqL.of ((s2.trans (s3.trans s)) _ _ (s1 _ _ hx)),_,ZgT (nthV hk),CW.next hj (by rw[ea]) s⟩
  ·intro b Hx sx zb
   have eb:(List.range q.length).map (λj=>V.int (nth (atL ts q) j))=(atL ts q).map V.int:=by
    refine List.ext_getElem (by simp[atL]) λj h1 h2=>?_
    have:j<(atL ts q).length:=by simpa using h2
    simp[nth,Yr,this]
   rw[eb]
   have gb:=(Zf.refl Hx).upd (o:=.lst ((atL ts q).map V.int)) zb
   refine⟨b,atL ts q,rfl,.inl (SqL.of Zc),by simp[atL];omega,λu es' H4 hT4 s4 hu=>?_⟩
   have s5:=sx.trans (gb.trans s4)
   refine⟨u,rfl,_,ZmA (n:=2) (K:=K) Zi6 _ _ _ _ (ZhF (SqT.of hu)) (ZhF (SqT.of ((s2.trans (s3.trans s5)) _ _ ht))),?_⟩
   have:=hR H4 s5
   rw[show(@decide (Zk (atL ts q) es) (Classical.propDecidable _))=decide (es'=es)from Bool.eq_iff_iff.mpr (by
    rw[@decide_eq_true_iff _ (Classical.propDecidable _),decide_eq_true_iff]
    exact⟨λz=>hT4.unique z,λz=>z▸hT4⟩)]at this
   exact this
 ·intro g H3 s3 zg tg
  have hf:∀q,q∈rs.filter (λq=>@decide (Zk (atL ts q) es) (Classical.propDecidable _))↔Zk7 ns ts q:=λq=>by
   rw[YO,hrs q,@decide_eq_true_iff _ (Classical.propDecidable _)]
   constructor
   ·rintro⟨⟨h1,h2⟩,h3⟩
    exact⟨h1,h2,es,hT,h3⟩
   ·rintro⟨h1,h2,W,h3,h4⟩
    exact⟨⟨h1,h2⟩,h3.unique hT▸h4⟩
  have hc:=ZiG hT (by omega) n0 (nd.filter _) hf
  obtain⟨as,e1,e2,_⟩:=tg
  exact k1 g as es H3 (s1.free (s2.free zg)) e1 hT (by rw[Yf,e2];exact hc) (s1.trans (s2.trans s3))
theorem ZfK {f:Addr}{fd:FuncData} (F:Fun K "_law_chosen" "_law_chosen" Zac f fd) (T:Txt K mg):FnOk P w K mg base (CXE P w) 1 f fd ["many","size"] (ZbG K mg):=by
 refine F.okX ZaU (λvs H Q E h=>?_) (λcdv A outer s H vs Q E hr h=>?_)
 ·obtain⟨many,size,rfl,_⟩:=h;rfl
 obtain⟨many,size,rfl,hm,hs,k1⟩:=h
 refine⟨_,(Ze (Zt (i:=2) ZaU.nd rfl (Or.inl rfl) Zd)
   (Ze (Zco (ZcW PassesOwn.never rfl (ZI rfl T.b_range (Za (pv 1) Zb)) (Zo (i:=3) ZaU.nd rfl (Or.inl rfl)) (Zg (Zt (i:=2) ZaU.nd rfl (Or.inl rfl) (Zl Zd6 (Zl ZaN (pv 2) (Zl ZaZ (pv 0) (pv 3))) (Zl Zad (pv 3) Zd))))))
   (Zg (Zy (pv 2))))),?_⟩
 walk_at "rd"
 refine⟨by omega,by omega,?_⟩
 rw[Y6]
 refine Zbw (λi σ Hx=>∃v3,σ=[some (.int (many:Int)),some (.int (size:Int)),some (.int (Zbj many i:Nat)),v3]/\Hx=H) ⟨_,by cases many<;>rfl,rfl⟩ ?_ ?_
 ·rintro i σ Hx hi ⟨v3,rfl,rfl⟩
  have hb:=Zfm many i
  have hb2:2 ^ many<=2 ^ 16:=Nat.pow_le_pow_right (by decide) hm
  walk_at "rd"
  have key:(Zbj many i:Int)*((many:Int)-(0+(i:Int))) / (0+(i:Int)+1)=(Zbj many (i+1):Nat):=by
   have st:=Zdo many i
   by_cases c:i<=many
   ·rw[show((many:Int)-(0+(i:Int)))=((many-i:Nat):Int) by omega,show(0+(i:Int)+1)=((i+1:Nat):Int) by omega,<-Int.natCast_mul,st,Int.natCast_mul]
    exact Int.mul_ediv_cancel _ (by omega)
   ·rw[ZbE many i (by omega),ZbE many (i+1) (by omega)];simp
  exact⟨Zgu (by omega) (by omega),⟨by omega,by omega⟩,key,_,rfl⟩
 ·rintro σ Hx ⟨v3,rfl,rfl⟩
  walk_at "rd"
  exact k1
noncomputable def plF (k:Int) (j:Nat):Int:=if k=0 then 3 else if k=1 then (j:Int)else -(j:Int)
theorem ZjZ {k:Int} (h0:0<=k) (h1:k<3) (n:Nat):Plain (if k=2 then 1 else 0) ((List.range n).map (plF k)):=by
 rcases(by omega:k=0\/k=1\/k=2)with rfl|rfl|rfl
 ·refine .inl ⟨rfl,?_⟩
  unfold Up;rw[List.pairwise_map]
  exact List.Pairwise.imp (λ{a b} _=>Int.le_refl _) (List.pairwise_lt_range (n:=n))
 ·refine .inl ⟨rfl,?_⟩
  unfold Up;rw[List.pairwise_map]
  exact List.Pairwise.imp (λ{a b} h=>by show(a:Int)<=b;omega) (List.pairwise_lt_range (n:=n))
 ·refine .inr ⟨rfl,?_⟩
  unfold Dn;rw[List.pairwise_map]
  exact List.Pairwise.imp (λ{a b} h=>by show -(a:Int) > -(b:Int);omega) (List.pairwise_lt_range (n:=n))
theorem Zga {f:Addr}{fd:FuncData} (F:Fun K "_law_plain" "_law_plain" Zas f fd) (Zj:Callee P w K mg base "_law_take" 1 ["pot","many"] (Z5 K mg)) (T:Txt K mg):FnOk P w K mg base (CXE P w) 2 f fd ["pot","most"] (Zb2 K mg):=by
 refine F.okX Zb4 (λvs H Q E h=>?_) (λcdv A outer s H vs Q E hr h=>?_)
 ·obtain⟨p,most,rfl,_⟩:=h;rfl
 obtain⟨p,most,rfl,h0,h1,hP,k1⟩:=h
 refine⟨_,(Ze (Zt (i:=2) Zb4.nd rfl (Or.inl rfl) (Zi Zj (hr.mono (by decide)) rfl Zr (Za (pv 0) (Za (Zl Zad (pv 1) Zd) Zb))))
   (Ze (Zt (i:=3) Zb4.nd rfl (Or.inr rfl) (Zi Zj (hr.mono (by decide)) rfl Zr (Za (pv 0) (Za Zd Zb))))
   (Zg (Zy (Zbz (Za (ZaQ ["k","kind"] [none,some 3] rfl rfl rfl (ZI rfl T.b_range (Za (pv 2) Zb)) (λ_ _ _ _ _=>(Zo (i:=0) (show(["k","kind"]:List Str).Nodup from by decide +kernel) rfl (Or.inl rfl))) (λ_ _ _ _ _=>Zax) (λ_ _ _ _ _=>(ZF (r:=rIxT K) Zcm (Zbz (Za Zd (Za (pv 0) (Za (ZcN Zbh (pv 0)) Zb)))) (pv 1) (λ_ _=>rfl))) ZG) (Za (Za0 ZjI rfl T.b_int ZkG (Za (Zfh Zdx (pv 3) Zd (Zp _)) Zb)) Zb))))))),?_⟩
 walk_at "rd"
 refine⟨p,_,rfl,by omega,by omega,hP,λd H1 d0 d1 P1 e1=>⟨p,3,rfl,by decide,by decide,P1,λk H2 q0 q1 P2 e2=>⟨d,rfl,by omega,by omega,?_⟩⟩⟩
 refine comp_map (n:=d.toNat) (λj=>V.int (plF k j)) (Yw (show _<=1000 by omega) (by decide)) (λj Hx s hj=>hj) (λHx s=>Yd _) ?_ ?_
 ·rintro j x Hx Hy hj s ⟨rfl,rfl⟩
  walk_at "rd"
  have e0:((0:Int)+(j:Int))=(j:Int):=by omega
  rw[e0]
  refine⟨by decide,λq hq=>⟨_,SqT.of Zc,V.int (plF k j),?_,CW.next hj rfl (s.ZbO hq)⟩⟩
  rcases(by omega:k=0\/k=1\/k=2)with rfl|rfl|rfl<;>rfl
 ·intro l Hx sx zl
  have g1:=(Zf.refl Hx).upd (o:=.lst ((List.range d.toNat).map λj=>V.int (plF k j))) zl
  refine⟨by first|rfl|simp[Zd1],by decide,λt zt=>?_⟩
  simp only[V.int.injEq]at zt⊢
  have g2:=(Zf.refl _).upd (o:=.tup [V.ref l,V.int (if k=2 then 1 else 0)]) zt
  have eL:(List.range d.toNat).map (λj=>V.int (plF k j))=((List.range d.toNat).map (plF k)).map V.int:=by rw[YV];rfl
  have e12:=e1.trans e2
  exact k1 t l ((List.range d.toNat).map (plF k)) (if k=2 then 1 else 0) _ (e12.free ((P2.same sx).ne zl) (sx.free zl)) (by simp;omega) (ZjZ q0 (by omega) _) (by rw[<-eL];exact g2 _ _ Zc) Zc ((P2.same sx).same (g1.trans g2)) (e12.same (sx.trans (g1.trans g2)))
theorem Zdv {f:Addr}{fd:FuncData} (F:Fun K "_law_wider_right" "_law_wider_right" ZE f fd) (Z7:Callee P w K mg base "many_loose" 23 ["row","text"] (Za7 K mg)) (Zj:Callee P w K mg base "_law_take" 1 ["pot","many"] (Z5 K mg)) (Zak:Callee P w K mg base "_law_row" 2 ["pot","most"] (sp__law_row K mg)) (ZP:Callee P w K mg base "_law_either" 2 ["pot","some"] (ZaT K mg)) (Z2:Callee P w K mg base "_law_holding" 3 ["row","text"] (ZaA K mg)) (T:Txt K mg):FnOk P w K mg base (CXE P w) 24 f fd ["pot"] (Zau K mg):=by
 refine F.okX Zav (λvs H Q E h=>?_) (λcdv A outer s H vs Q E hr h=>?_)
 ·obtain⟨p,rfl,_⟩:=h;rfl
 obtain⟨p,rfl,hP,k1⟩:=h
 refine⟨_,(Ze (Zt (i:=1) Zav.nd rfl (Or.inl rfl) (Zbf ZbR (Zl ZdH (Zi Zak (hr.mono (by decide)) rfl Zr (Za (pv 0) (Za Zd Zb))) (ZaQ ["k","pot"] [none,some 0] rfl rfl rfl (ZI rfl T.b_range (Za Zd Zb)) (λ_ _ _ _ _=>(Zo (i:=0) (show(["k","pot"]:List Str).Nodup from by decide +kernel) rfl (Or.inl rfl))) (λ_ _ _ _ _=>Zax) (λ_ _ _ _ _=>(Zi Zj (hr.mono (by decide)) rfl Zr (Za (pv 1) (Za Zd Zb)))) ZG)) ZbP (ZbQ (Zl Zad Zd (Zi Zj (hr.mono (by decide)) rfl Zr (Za (pv 0) (Za Zd Zb)))))))
   (Ze (Zt (i:=2) Zav.nd rfl (Or.inl rfl) (Zbf ZbR (Zl ZdH (Zi Zak (hr.mono (by decide)) rfl Zr (Za (pv 0) (Za Zd Zb))) (ZaQ ["k","pot"] [none,some 0] rfl rfl rfl (ZI rfl T.b_range (Za Zd Zb)) (λ_ _ _ _ _=>(Zo (i:=0) (show(["k","pot"]:List Str).Nodup from by decide +kernel) rfl (Or.inl rfl))) (λ_ _ _ _ _=>Zax) (λ_ _ _ _ _=>(Zi Zj (hr.mono (by decide)) rfl Zr (Za (pv 1) (Za Zd Zb)))) ZG)) ZbP (ZbQ (Zl Zad Zd (Zi Zj (hr.mono (by decide)) rfl Zr (Za (pv 0) (Za Zd Zb)))))))
   (Ze (ZR (Zn ZcY (Zi Zj (hr.mono (by decide)) rfl Zr (Za (pv 0) (Za Zd Zb))) Zd (Zp _)) (Ze (ZbY (Zl ZaZ (Zm (Zgs rfl) rfl T.b_min Zit (Za (pv 1) Zb)) Zd) (Zeo (pv 1) Zd set_list (λ_=>rfl)))
   (Zg (ZbY (Zl ZaZ (Zm (Zgs rfl) rfl T.b_min Zit (Za (pv 2) Zb)) (Zi Zj (hr.mono (by decide)) rfl Zr (Za (pv 0) (Za Zd Zb)))) (Zeo (pv 2) Zd set_list (λ_=>rfl))))) ZA)
   (Zg (Zy (Zfh Zdx (Zi Z7 (hr.mono (by decide)) rfl Zr (Za (Zi ZP (hr.mono (by decide)) rfl Zr (Za (pv 0) (Za (pv 1) Zb))) (Za (pv 2) Zb))) (Zm (Zq (K:=K) rfl) rfl T.b_len Yv (Za (Zi Z2 (hr.mono (by decide)) rfl Zr (Za (pv 1) (Za (pv 2) Zb))) Zb)) (Zp _))))))),?_⟩
 refine Zay (fun σ Hx=>∃(r:Addr) (ns:List Int),σ=[some (.ref p),some (.ref r),none]/\H r=none/\Hx r=some (.lst (ns.map V.int))/\5<=ns.length/\ns.length<=6/\Zu Hx p/\Exc p H Hx) (λR hR=>?_) ?_
 ·walk_at "rd"
  refine⟨p,_,rfl,by decide,by decide,hP,λr0 ns0 H2 z0 n0 h0 P2 e2=>⟨by decide,by decide,?_⟩⟩
  refine Zbg (n:=6) (λj acc Hz=>∃ts:List Int,acc=ts.map V.int/\ts.length=j/\Zu Hz p/\Exc p H2 Hz) (by decide) ⟨[],rfl,rfl,P2,(Zf.refl _).Zgv⟩ (λj acc Hz _ hj=>hj) (λacc Hz _=>Yd _) ?_ ?_
  ·rintro j u acc Hz Hw hj hla ⟨ts,rfl,htl,Pz,ez⟩ ⟨rfl,rfl⟩
   walk_at "rd"
   exact⟨p,3,rfl,by decide,by decide,Pz,λd6 H7 _ _ P7 e7=>CA.take hj hla ⟨ts++[d6],by simp,by simp[htl],P7,ez.trans e7⟩⟩
  ·rintro x1 acc Hz ⟨ts,rfl,htl,Pz,ez⟩ _ zx1
   have gl:=(Zf.refl Hz).upd (o:=.lst (ts.map V.int)) zx1
   have h1:=gl _ _ (ez _ _ (hP.ne z0) h0)
   refine⟨r0,rfl,x1,rfl,_,h1,_,Zc,Yh (show _<=1000 by simp;omega) (by decide),λq1 zq1=>?_⟩
   have g1:=(Zf.refl _).upd (o:=.lst (ns0.map V.int++ts.map V.int)) zq1
   refine⟨p,2,rfl,by decide,by decide,(Pz.same gl).same g1,λd H7 d0 d1 P7 e7=>⟨d,rfl,_,SqL.of (e7 _ _ ((Pz.same gl).ne zq1) Zc),λq2 zq2=>?_⟩⟩
   have ec:Zcl (ns0.map V.int++ts.map V.int) none (some (5+d))=((ns0++ts).take (5+d.toNat)).map V.int:=by
    have:=Zg5 (ns0.map V.int++ts.map V.int) (5+d.toNat)
    rw[show(((5+d.toNat:Nat)):Int)=5+d by omega]at this
    rw[this];simp[List.map_take]
   rw[ec]
   have e0:=((e2.trans ez).same (gl.trans g1)).trans e7
   exact hR _ _ ⟨q2,_,rfl,e0.free (P7.ne zq2) zq2,Zc,by simp;omega,by simp;omega,P7.upd zq2,e0.same ((Zf.refl H7).upd zq2)⟩
 rintro σ H1 ⟨r,ns,rfl,zr,hr1,l5,l6,P1,e1⟩
 refine Zay (fun σ Hx=>∃(x:Addr) (ts:List Int),σ=[some (.ref p),some (.ref r),some (.ref x)]/\H1 x=none/\Hx x=some (.lst (ts.map V.int))/\8<=ts.length/\ts.length<=10/\Zu Hx p/\Exc p H1 Hx) (λR hR=>?_) ?_
 ·walk_at "rd"
  refine⟨p,_,rfl,by decide,by decide,P1,λr0 ns0 H2 z0 n0 h0 P2 e2=>⟨by decide,by decide,?_⟩⟩
  refine Zbg (n:=10) (λj acc Hz=>∃ts:List Int,acc=ts.map V.int/\ts.length=j/\Zu Hz p/\Exc p H2 Hz) (by decide) ⟨[],rfl,rfl,P2,(Zf.refl _).Zgv⟩ (λj acc Hz _ hj=>hj) (λacc Hz _=>Yd _) ?_ ?_
  ·rintro j u acc Hz Hw hj hla ⟨ts,rfl,htl,Pz,ez⟩ ⟨rfl,rfl⟩
   walk_at "rd"
   exact⟨p,3,rfl,by decide,by decide,Pz,λd6 H7 _ _ P7 e7=>CA.take hj hla ⟨ts++[d6],by simp,by simp[htl],P7,ez.trans e7⟩⟩
  ·rintro x1 acc Hz ⟨ts,rfl,htl,Pz,ez⟩ _ zx1
   have gl:=(Zf.refl Hz).upd (o:=.lst (ts.map V.int)) zx1
   have h1:=gl _ _ (ez _ _ (P1.ne z0) h0)
   refine⟨r0,rfl,x1,rfl,_,h1,_,Zc,Yh (show _<=1000 by simp;omega) (by decide),λq1 zq1=>?_⟩
   have g1:=(Zf.refl _).upd (o:=.lst (ns0.map V.int++ts.map V.int)) zq1
   refine⟨p,3,rfl,by decide,by decide,(Pz.same gl).same g1,λd H7 d0 d1 P7 e7=>⟨d,rfl,_,SqL.of (e7 _ _ ((Pz.same gl).ne zq1) Zc),λq2 zq2=>?_⟩⟩
   have ec:Zcl (ns0.map V.int++ts.map V.int) none (some (8+d))=((ns0++ts).take (8+d.toNat)).map V.int:=by
    have:=Zg5 (ns0.map V.int++ts.map V.int) (8+d.toNat)
    rw[show(((8+d.toNat:Nat)):Int)=8+d by omega]at this
    rw[this];simp[List.map_take]
   rw[ec]
   have e0:=((e2.trans ez).same (gl.trans g1)).trans e7
   exact hR _ _ ⟨q2,_,rfl,e0.free (P7.ne zq2) zq2,Zc,by simp;omega,by simp;omega,P7.upd zq2,e0.same ((Zf.refl H7).upd zq2)⟩
 rintro σ H2 ⟨x,ts,rfl,zx,hx,t8,t10,P2,e2⟩
 have nrp:r≠p:=hP.ne zr
 have nxp:x≠p:=P1.ne zx
 have nrx:r≠x:=λz=>by rw[z,zx]at hr1;cases hr1
 replace hr1:=e2 _ _ nrp hr1
 have zx0:H x=none:=e1.free nxp zx
 replace e2:=e1.trans e2
 clear e1 P1
 refine Zay (fun σ Hx=>∃(ns ts:List Int),σ=[some (.ref p),some (.ref r),some (.ref x)]/\Hx r=some (.lst (ns.map V.int))/\Hx x=some (.lst (ts.map V.int))/\5<=ns.length/\ns.length<=6/\ts.length<=10/\Zu Hx p/\Exc p H Hx) (λR hR=>?_) ?_
 ·walk_at "rd"
  refine⟨p,3,rfl,by decide,by decide,P2,λd H3 d0 d1 P3 e3=>⟨d,rfl,Z3 (λhd=>?_) λ_=>hR _ _ ⟨ns,ts,rfl,e3 _ _ nrp hr1,e3 _ _ nxp hx,l5,l6,t10,P3,e2.trans e3⟩⟩⟩
  have hr3:=e3 _ _ nrp hr1
  have hx3:=e3 _ _ nxp hx
  have ei:∀(ns:List Int) (i:Nat) (m:Int),(ns.map V.int).set i (V.int m)=(ns.set i m).map V.int:=λns i m=>by rw[List.map_set]
  refine⟨ns,SqL.of hr3,(λz=>by rw[z]at l5;simp at l5),λm _ _=>⟨_,hr3,2,Zfk (n:=(ns.map V.int).length) (j:=2) (by rw[Yf];omega),ts,?_,(λz=>by rw[z]at t8;simp at t8),λm1 _ _=>?_⟩⟩
  ·exact SqL.of (by rw[Zh (Ne.symm nrx)];exact hx3)
  rw[ei]
  refine⟨p,2,rfl,by decide,by decide,P3.Zg4 nrp,λd2 H4 _ _ P4 e4=>⟨d2,rfl,_,e4 _ _ nxp (by rw[Zh (Ne.symm nrx)];exact hx3),4,Zfk (n:=(ts.map V.int).length) (j:=4) (by rw[Yf];omega),?_⟩⟩
  rw[ei]
  exact hR _ _ ⟨ns.set 2 (m-1),ts.set 4 (m1-d2),rfl,by rw[Zh nrx];exact e4 _ _ nrp Zc,Zc,by simpa using l5,by simpa using l6,by simpa using t10,P4.Zg4 nxp,(((e2.trans e3).Zg4 zr).trans e4).Zg4 zx0⟩
 clear hr1 hx l5 l6 t8 t10 P2 e2 ns ts
 rintro σ H3 ⟨ns,ts,rfl,hr1,hx,l5,l6,t10,P2,e2⟩
 walk_at "rd"
 refine⟨p,r,_,rfl,P2,nrp,hr1,by rw[Yf];omega,λu H4 zu hu P4 e4=>?_⟩
 refine⟨u,x,ns,ts,rfl,hu,.inl (e4 _ _ nxp hx),by omega,l6,by omega,λT H5 hT s5=>?_⟩
 refine⟨r,x,ns,ts,rfl,.inl (SqL.of (s5 _ _ (e4 _ _ nrp hr1))),s5 _ _ (e4 _ _ nxp hx),by omega,l6,by omega,λl as T2 H6 zl hl hT2 hc s6=>⟨l,rfl,_,.inl (SqL.of hl),by first|rfl|simp[Zd1],?_⟩⟩
 rw[hc,hT2.unique hT,YL rfl]
 exact k1 H6 (P4.same (s5.trans s6)) ((e2.trans e4).same (s5.trans s6))
theorem ZiJ {b:Int}{ns:List Int} (h:Plain b ns):Plain b (ns++[(ns.drop (ns.length-1)).sum+1-2*b]):=by
 rcases List.eq_nil_or_concat ns with rfl|⟨ys,y,rfl⟩
 ·rcases h with⟨rfl,_⟩|⟨rfl,_⟩
  ·exact .inl ⟨rfl,List.pairwise_singleton _ _⟩
  ·exact .inr ⟨rfl,List.pairwise_singleton _ _⟩
 ·rw[List.concat_eq_append]at h⊢
  have e:((ys++[y]).drop ((ys++[y]).length-1)).sum=y:=by simp
  rw[e]
  rcases h with⟨rfl,h⟩|⟨rfl,h⟩
  ·refine .inl ⟨rfl,List.pairwise_append.mpr ⟨h,List.pairwise_singleton _ _,λx hx z hz=>?_⟩⟩
   rw[YF.mp hz]
   have:=(List.pairwise_append.mp h).2.2
   rcases Yq.mp hx with w|w
   ·have:=this x w y (by simp);omega
   ·rw[YF.mp w];omega
  ·refine .inr ⟨rfl,List.pairwise_append.mpr ⟨h,List.pairwise_singleton _ _,λx hx z hz=>?_⟩⟩
   rw[YF.mp hz]
   have:=(List.pairwise_append.mp h).2.2
   rcases Yq.mp hx with w|w
   ·have:=this x w y (by simp);omega
   ·rw[YF.mp w];omega
theorem ok_law {f:Addr}{fd:FuncData} (F:Fun K "law" "law" s_law f fd) (Z7:Callee P w K mg base "many_loose" 23 ["row","text"] (Za7 K mg)) (Zc3:Callee P w K mg base "_law_deal" 1 ["script","k"] (Zcr K mg)) (Zcv:Callee P w K mg base "_law_whole" 1 ["thing"] (ZbZ K mg)) (ZP:Callee P w K mg base "_law_either" 2 ["pot","some"] (ZaT K mg)) (Zc4:Callee P w K mg base "_law_pair" 3 ["pot","most","wide"] (Zcs K mg)) (Z2:Callee P w K mg base "_law_holding" 3 ["row","text"] (ZaA K mg)) (Zb6:Callee P w K mg base "_law_chosen" 1 ["many","size"] (ZbG K mg)) (Zbq:Callee P w K mg base "_law_plain" 2 ["pot","most"] (Zb2 K mg)) (ZaC:Callee P w K mg base "_law_wider_right" 24 ["pot"] (Zau K mg)) (T:Txt K mg):FnOk P w K mg base (CXE P w) 25 f fd ["script"] (spLaw K):=by
 refine F.okX sc_law (λvs H Q E h=>?_) (λcdv A outer s H vs Q E hr h=>?_)
 ·obtain⟨a,ns,rfl,_⟩:=h;rfl
 obtain⟨sc,ss,rfl,hsc,hss,k1⟩:=h
 refine⟨_,(Ze (Zco (ZcW PassesOwn.never rfl (ZI rfl T.b_range (Za (Zm (Zjr rfl) rfl T.b_max bt_max (Za Zd (Za (Zm (Zjs rfl) rfl T.b_min Zit (Za (Zm (Zq (K:=K) rfl) rfl T.b_len Yv (Za (pv 0) Zb)) (Za Zd Zb))) Zb))) Zb)) (Zo (i:=1) sc_law.nd rfl (Or.inl rfl)) (Ze (Zt (i:=2) sc_law.nd rfl (Or.inl rfl) (Zi Zc3 (hr.mono (by decide)) rfl Zr (Za (pv 0) (Za (pv 1) Zb))))
   (Ze (ZbY (Zi Zc4 (hr.mono (by decide)) rfl Zr (Za (pv 2) (Za Zd (Za Zd Zb)))) (ZgQ (n:=2) rfl (Zaw (Zo (i:=3) sc_law.nd rfl (Or.inl rfl)) (Zaw (Zo (i:=4) sc_law.nd rfl (Or.inl rfl)) ZdY))))
   (Ze (ZR (Zn Zdx (pv 1) Zd (Zp _)) (Zg (ps_par (i:=3) (j:=4) rfl sc_law.nd rfl rfl (by decide) rfl rfl (Za (Zbf ZbR (Zl Zir (pv 3) Zd) ZbP (ZbQ Zd)) (Za (Zbf ZbR (Zl ZdH (pv 4) (Zl Zir (pv 3) Zd)) ZbP (ZbQ Zd)) Zb)) rfl)) ZA)
   (Ze (Zt (i:=5) sc_law.nd rfl (Or.inl rfl) (Zbz (Za (Zi ZP (hr.mono (by decide)) rfl Zr (Za (pv 2) (Za (pv 3) Zb))) (Za (Zi ZP (hr.mono (by decide)) rfl Zr (Za (pv 2) (Za (pv 4) Zb))) Zb))))
   (Ze (Zt (i:=6) sc_law.nd rfl (Or.inl rfl) (Zi Z7 (hr.mono (by decide)) rfl Zr (Za (ZF Zcm (pv 5) Zd (λ_ _=>rfl)) (Za (ZF Zcm (pv 5) Zd (λ_ _=>rfl)) Zb))))
   (Ze (ZR (PW.pt (ZiP (Zkl (Zie (Zi Zcv (hr.mono (by decide)) rfl Zr (Za (pv 6) Zb)))) (ZgP (Zn Zkr (pv 6) (Zm (Zq (K:=K) rfl) rfl T.b_len Yv (Za (Zi Z2 (hr.mono (by decide)) rfl Zr (Za (pv 3) (Za (pv 4) Zb))) Zb)) (Zp _))))) (Zg (Zy Zgk)) ZA)
   (Ze (ZR (PW.pt (ZiP (Zn (Zk2 (K:=K) rfl hr) (Za0 (ZdK (K:=K) rfl) rfl T.b_list Zg2 (Za (ZF Zcm (pv 5) Zd (λ_ _=>rfl)) Zb)) (pv 3) (Zp _)) (ZgP (Zn (Zk2 (K:=K) rfl hr) (Za0 (ZdK (K:=K) rfl) rfl T.b_list Zg2 (Za (ZF Zcm (pv 5) Zd (λ_ _=>rfl)) Zb)) (pv 4) (Zp _))))) (Zg (Zy Zgk)) ZA)
   (Ze (ZR (Zkl (Zie (Zi ZaC (hr.mono (by decide)) rfl Zr (Za (pv 2) Zb)))) (Zg (Zy Zgk)) ZA)
   (Ze (ZbY (Zi Zbq (hr.mono (by decide)) rfl Zr (Za (pv 2) (Za Zd Zb))) (ZgQ (n:=2) rfl (Zaw (Zo (i:=3) sc_law.nd rfl (Or.inl rfl)) (Zaw (Zo (i:=7) sc_law.nd rfl (Or.inl rfl)) ZdY))))
   (Ze (Zt (i:=3) sc_law.nd rfl (Or.inl rfl) (Zl ZdH (pv 3) (ZaL (Za (Zl ZaZ (Zl Zad (Zm (ZhA rfl) rfl T.b_sum ZkF (Za (Zbf ZbR (pv 3) (ZbQ (ZcN Zbh Zd)) ZbP) Zb)) Zd) (Zl ZaN Zd (pv 7))) Zb))))
   (Ze (ZbY (Zi Zbq (hr.mono (by decide)) rfl Zr (Za (pv 2) (Za Zd Zb))) (ZgQ (n:=2) rfl (Zaw (Zo (i:=4) sc_law.nd rfl (Or.inl rfl)) (Zaw (Zo (i:=8) sc_law.nd rfl (Or.inl rfl)) ZdY))))
   (Ze (Zt (i:=9) sc_law.nd rfl (Or.inl rfl) (Zi Zb6 (hr.mono (by decide)) rfl Zr (Za (Zm (Zq (K:=K) rfl) rfl T.b_len Yv (Za (pv 4) Zb)) (Za (Zm (Zq (K:=K) rfl) rfl T.b_len Yv (Za (pv 3) Zb)) Zb))))
   (Ze (ZR (PW.pt (ZiP (Zn ZcY (Zm (Zq (K:=K) rfl) rfl T.b_len Yv (Za (pv 3) Zb)) (Zm (Zq (K:=K) rfl) rfl T.b_len Yv (Za (pv 4) Zb)) (Zp _)) (ZgP (PW.pt (Zkk (Zn ZcY (Zm (Zq (K:=K) rfl) rfl T.b_len Yv (Za (pv 3) Zb)) Zd (Zp _)) (ZiO (Zn Zkr (pv 7) (pv 8) (Zp _)))))))) (Zg (Zt (i:=9) sc_law.nd rfl (Or.inl rfl) Zd)) ZA)
   (Zg (ZR (Zn Zkr (Zi Z7 (hr.mono (by decide)) rfl Zr (Za (pv 3) (Za (pv 4) Zb))) (pv 9) (Zp _)) (Zg (Zy Zgk)) ZA)))))))))))))))))
   (Zg (Zy Zgk))),?_⟩
 walk_at "rd"
 refine⟨_,.inl hsc,by split<;>(try split)<;>omega,by split<;>(try split)<;>omega,?_⟩
 refine Zbw (λi σ Hx=>∃v1 v2 v3 v4 v5 v6 v7 v8 v9,σ=[some (.ref sc),v1,v2,v3,v4,v5,v6,v7,v8,v9]/\Zf H Hx) ⟨_,_,_,_,_,_,_,_,_,rfl,Zf.refl H⟩ ?_ ?_
 ·rintro i σ H' hi ⟨v1,v2,v3,v4,v5,v6,v7,v8,v9,rfl,hs⟩
  have hi8:i<16:=by
   revert hi
   split
   ·split<;>omega
   ·omega
  refine Zay (fun σ Hx=>∃p,σ=[some (.ref sc),some (.int (0+(i:Int))),some (.ref p),v3,v4,v5,v6,v7,v8,v9]/\H p=none/\Zu Hx p/\Zf H Hx) (λR hR=>?_) ?_
  ·walk_at "rd"
   exact⟨sc,ss,_,rfl,hs.seq hsc,by omega,by omega,λp H1 hp s1 P1=>hR _ _ ⟨p,rfl,hs.free hp,P1,hs.trans s1⟩⟩
  rintro σ H1 ⟨p,rfl,zp,P1,s1⟩
  refine Zay (fun σ Hx=>∃(r x:Addr) (ns ts:List Int),σ=[some (.ref sc),some (.int (0+(i:Int))),some (.ref p),some (.ref r),some (.ref x),v5,v6,v7,v8,v9]/\r≠p/\x≠p/\0<ns.length/\ns.length<=4/\ts.length<=9/\Hx r=some (.lst (ns.map V.int))/\Hx x=some (.lst (ts.map V.int))/\Zu Hx p/\Zf H Hx) (λR hR=>?_) ?_
  ·walk_at "rd"
   exact⟨p,_,_,rfl,by decide,by decide,by decide,by decide,P1,λt r x ns ts H2 zr zx l0 l1 l2 hr2 hx2 ht2 P2 e2=>⟨t,rfl,_,SqT.of ht2,rfl,_,_,rfl,_,_,rfl,rfl,hR _ _ ⟨r,x,ns,ts,rfl,P1.ne zr,P1.ne zx,l0,by omega,by omega,hr2,hx2,P2,s1.exc zp e2⟩⟩⟩
  clear P1 s1 H1
  rintro σ H2 ⟨r0,x0,ns0,ts0,rfl,nrp,nxp,l0,l1,l2,hr2,hx2,P2,s2⟩
  refine Zay (fun σ Hx=>∃(r x:Addr) (ns ts:List Int),σ=[some (.ref sc),some (.int (0+(i:Int))),some (.ref p),some (.ref r),some (.ref x),v5,v6,v7,v8,v9]/\r≠p/\x≠p/\0<ns.length/\ns.length<=4/\ts.length<=16/\Hx r=some (.lst (ns.map V.int))/\Hx x=some (.lst (ts.map V.int))/\Zu Hx p/\Zf H Hx) (λR hR=>?_) ?_
  ·walk_at "rd"
   refine Z3 (λ_=>?_) (λ_=>hR _ _ ⟨r0,x0,ns0,ts0,rfl,nrp,nxp,l0,l1,by omega,hr2,hx2,P2,s2⟩)
   have eR:∀(k:Nat) (ns:List Int),(List.replicate k (ns.map V.int)).flatten=((List.replicate k ns).flatten).map V.int:=λk ns=>by rw[List.map_flatten,List.map_replicate]
   have eLn:∀(k:Nat) (ns:List Int),((List.replicate k ns).flatten).length=k*ns.length:=λk ns=>by simp
   have eC:∀(k:Nat) (ns:List Int),Zcl (ns.map V.int) none (some (k:Int))=(ns.take k).map V.int:=λk ns=>by rw[Zg5];simp[List.map_take]
   have eC4:∀ns:List Int,Zcl (ns.map V.int) none (some 4)=(ns.take 4).map V.int:=eC 4
   have eC16:∀ns:List Int,Zcl (ns.map V.int) none (some 16)=(ns.take 16).map V.int:=eC 16
   simp only[show Int.toNat 4=4 from rfl,show Int.toNat 16=16 from rfl]
   refine⟨_,hr2,by decide,by decide,Yh (show(ns0.map V.int).length*4<=1000 by rw[Yf];omega) (by decide),λq1 z1=>⟨_,SqL.of Zc,λq2 z2=>?_⟩⟩
   rw[eR 4 ns0]at *
   rw[eC4]
   have g1:=(Zf.refl H2).upd (o:=.lst (((List.replicate 4 ns0).flatten).map V.int)) z1
   have g2:=(Zf.refl _).upd (o:=.lst ((((List.replicate 4 ns0).flatten).take 4).map V.int)) z2
   have l4:=eLn 4 ns0
   generalize (List.replicate 4 ns0).flatten=A4 at z2 g1 g2 l4⊢
   refine⟨_,(g1.trans g2) _ _ hr2,by decide,by decide,Yh (show(ns0.map V.int).length*16<=1000 by rw[Yf];omega) (by decide),λq3 z3=>?_⟩
   rw[eR 16 ns0]at *
   have l16:=eLn 16 ns0
   generalize (List.replicate 16 ns0).flatten=A16 at z3 l16⊢
   have g3:=(Zf.refl _).upd (o:=.lst (A16.map V.int)) z3
   refine⟨_,(g1.trans (g2.trans g3)) _ _ hx2,_,Zc,Yh (show _<=1000 by rw[Yf,Yf];omega) (by decide),λq4 z4=>⟨_,SqL.of Zc,λq5 z5=>?_⟩⟩
   rw[<-YM]at *
   rw[eC16]
   have g4:=(Zf.refl _).upd (o:=.lst ((ts0++A16).map V.int)) z4
   have g5:=(Zf.refl _).upd (o:=.lst (((ts0++A16).take 16).map V.int)) z5
   have g35:=g3.trans (g4.trans g5)
   exact hR _ _ ⟨q2,q5,A4.take 4,(ts0++A16).take 16,rfl,(P2.same g1).ne z2,(P2.same (g1.trans (g2.trans (g3.trans g4)))).ne z5,by simp;omega,by simp;omega,by simp;omega,g35 _ _ Zc,Zc,P2.same (g1.trans (g2.trans g35)),s2.trans (g1.trans (g2.trans g35))⟩
  clear P2 s2 H2 nrp nxp l0 l1 l2 hr2 hx2 ns0 ts0 r0 x0
  rintro σ H2 ⟨r,x,ns,ts,rfl,nrp,nxp,l0,l1,l2,hr2,hx2,P2,s2⟩
  refine Zay (fun σ Hx=>∃(h u1 u2:Addr),σ=[some (.ref sc),some (.int (0+(i:Int))),some (.ref p),some (.ref r),some (.ref x),some (.ref h),v6,v7,v8,v9]/\Hx h=some (.tup [.ref u1,.ref u2])/\(Hx u1=some (.lst (ns.map V.int))\/Hx u1=some (.tup (ns.map V.int)))/\(Hx u2=some (.lst (ts.map V.int))\/Hx u2=some (.tup (ts.map V.int)))/\Zu Hx p/\Exc p H2 Hx) (λR hR=>?_) ?_
  ·walk_at "rd"
   refine⟨p,r,_,rfl,P2,nrp,hr2,by rw[Yf];omega,λu1 H3 zu1 hu1 P3 e3=>⟨p,x,_,rfl,P3,nxp,e3 _ _ nxp hx2,by rw[Yf];omega,λu2 H4 zu2 hu2 P4 e4=>⟨by decide,λh zh=>hR _ _ ⟨h,u1,u2,rfl,Zc,?_,?_,P4.upd zh,(e3.trans e4).same ((Zf.refl H4).upd zh)⟩⟩⟩⟩
   ·have n1:u1≠p:=P2.ne zu1
    exact hu1.imp (λz=>((Zf.refl H4).upd zh) _ _ (e4 _ _ n1 z)) λz=>((Zf.refl H4).upd zh) _ _ (e4 _ _ n1 z)
   ·exact hu2.imp (λz=>((Zf.refl H4).upd zh) _ _ z) λz=>((Zf.refl H4).upd zh) _ _ z
  rintro σ H3 ⟨h,u1,u2,rfl,hh,hu1,hu2,P3,e3⟩
  replace hr2:=e3 _ _ nrp hr2
  replace hx2:=e3 _ _ nxp hx2
  have s3:Zf H H3:=s2.exc zp e3
  refine Zay (fun σ Hx=>∃C:Int,σ=[some (.ref sc),some (.int (0+(i:Int))),some (.ref p),some (.ref r),some (.ref x),some (.ref h),some (.int C),v7,v8,v9]/\(∀T,Zk ns T->C=(waC T ts (some (T.idxOf (-1))) 0 ts.length:Nat))/\Zf H3 Hx) (λR hR=>?_) ?_
  ·walk_at "rd"
   exact⟨_,SqT.of hh,_,rfl,_,SqT.of hh,_,rfl,u1,u2,ns,ts,rfl,hu1,hu2,l0,by omega,l2,λT H4 hT s4=>hR _ _ ⟨_,rfl,(λT2 h2=>by rw[h2.unique hT]),s4⟩⟩
  rintro σ H4 ⟨C,rfl,hC,s4⟩
  refine Zay (fun σ Hx=>σ=[some (.ref sc),some (.int (0+(i:Int))),some (.ref p),some (.ref r),some (.ref x),some (.ref h),some (.int C),v7,v8,v9]/\Zf H3 Hx) (λR hR=>?_) ?_
  ·walk_at "rd"
   exact⟨C,rfl,true,rfl,Z3 (λz=>nomatch z) λ_=>⟨r,x,ns,ts,rfl,.inl (SqL.of (s4 _ _ hr2)),s4 _ _ hx2,l0,by omega,l2,λl as T H5 zl hl hT hc s5=>⟨l,rfl,_,.inl (SqL.of hl),Z3 (λz=>absurd (by rw[hc];exact hC T hT) z) λ_=>hR _ _ ⟨rfl,s4.trans s5⟩⟩⟩⟩
  clear s4 H4
  rintro σ H4 ⟨rfl,s4⟩
  refine Zay (fun σ Hx=>σ=[some (.ref sc),some (.int (0+(i:Int))),some (.ref p),some (.ref r),some (.ref x),some (.ref h),some (.int C),v7,v8,v9]/\Zf H3 Hx) (λR hR=>?_) ?_
  ·walk_at "rd"
   have hr4:=s4 _ _ hr2
   have hx4:=s4 _ _ hx2
   have hh4:=s4 _ _ hh
   refine⟨_,SqT.of hh4,_,rfl,u1,rfl,_,hu1.imp (λz=>SqL.of (s4 _ _ z)) (λz=>SqT.of (s4 _ _ z)),λl zl=>?_⟩
   have g1:=(Zf.refl H4).upd (o:=.lst (ns.map V.int)) zl
   refine⟨_,Zjh (n:=2) (K:=K) Zjg _ _ ns ns (Zcg (SqL.of Zc)) (Zcg (SqL.of (g1 _ _ hr4))),Z3 (λz=>absurd z (by simp)) λ_=>?_⟩
   have s5:=s4.trans g1
   refine⟨_,SqT.of (g1 _ _ hh4),_,rfl,u2,rfl,_,hu2.imp (λz=>SqL.of (s5 _ _ z)) (λz=>SqT.of (s5 _ _ z)),λl2 zl2=>?_⟩
   have g2:=(Zf.refl _).upd (o:=.lst (ts.map V.int)) zl2
   exact⟨_,Zjh (n:=2) (K:=K) Zjg _ _ ts ts (Zcg (SqL.of Zc)) (Zcg (SqL.of (g2 _ _ (g1 _ _ hx4)))),Z3 (λz=>absurd z (by simp)) λ_=>hR _ _ ⟨rfl,s5.trans g2⟩⟩
  clear s4 H4
  rintro σ H4 ⟨rfl,s4⟩
  refine Zay (fun σ Hx=>σ=[some (.ref sc),some (.int (0+(i:Int))),some (.ref p),some (.ref r),some (.ref x),some (.ref h),some (.int C),v7,v8,v9]/\Zu Hx p/\Zf H Hx) (λR hR=>?_) ?_
  ·walk_at "rd"
   exact⟨p,rfl,P3.same s4,λH5 P5 e5=>⟨true,rfl,Z3 (λz=>nomatch z) λ_=>hR _ _ ⟨rfl,P5,(s3.trans s4).exc zp e5⟩⟩⟩
  clear s4 H4 P3 e3 hr2 hx2 hu1 hu2 hh s3 s2 P2 H3 H2 nrp nxp l0 l1 l2 hC ns ts
  rintro σ H2 ⟨rfl,P2,s2⟩
  refine Zay (fun σ Hx=>∃(r:Addr) (ns:List Int) (b:Int),σ=[some (.ref sc),some (.int (0+(i:Int))),some (.ref p),some (.ref r),some (.ref x),some (.ref h),some (.int C),some (.int b),v8,v9]/\r≠p/\ns.length<=5/\Plain b ns/\Hx r=some (.lst (ns.map V.int))/\Zu Hx p/\Zf H Hx) (λR hR=>?_) ?_
  ·walk_at "rd"
   exact⟨p,5,rfl,by decide,by decide,P2,λt r1 ns1 b H3 zr lr hpl hr ht P3 e3=>⟨t,rfl,_,SqT.of ht,rfl,_,_,rfl,_,_,rfl,rfl,hR _ _ ⟨r1,ns1,b,rfl,P2.ne zr,by omega,hpl,hr,P3,s2.exc zp e3⟩⟩⟩
  clear P2 s2 H2
  rintro σ H2 ⟨r1,ns1,b,rfl,nrp,l1,hp1,hr1,P2,s2⟩
  refine Zay (fun σ Hx=>∃(r:Addr) (ns:List Int),σ=[some (.ref sc),some (.int (0+(i:Int))),some (.ref p),some (.ref r),some (.ref x),some (.ref h),some (.int C),some (.int b),v8,v9]/\r≠p/\0<ns.length/\ns.length<=6/\Plain b ns/\Hx r=some (.lst (ns.map V.int))/\Zu Hx p/\Zf H Hx) (λR hR=>?_) ?_
  ·walk_at "rd"
   have ek:Zcl (ns1.map V.int) (some (-1)) none=(ns1.drop (ns1.length-1)).map V.int:=by rw[ZkV];simp[List.map_drop]
   refine⟨_,SqL.of hr1,λq1 z1=>?_⟩
   rw[ek]
   have g1:=(Zf.refl H2).upd (o:=.lst ((ns1.drop (ns1.length-1)).map V.int)) z1
   refine⟨ns1.drop (ns1.length-1),SqL.of Zc,Zgu (by decide) (by decide),by decide,λq2 z2=>?_⟩
   have hpl:=ZiJ hp1
   generalize (ns1.drop (ns1.length-1)).sum+1-2*b=v at z2 hpl⊢
   have g2:=(Zf.refl _).upd (o:=.lst [V.int v]) z2
   refine⟨_,(g1.trans g2) _ _ hr1,_,Zc,Yh (show _<=1000 by simp;omega) (by decide),λq3 z3=>?_⟩
   have g3:=(Zf.refl _).upd (o:=.lst (ns1.map V.int++[V.int v])) z3
   exact hR _ _ ⟨q3,ns1++[v],rfl,(P2.same (g1.trans g2)).ne z3,by simp,by simp;omega,hpl,by rw[Zc,YM];rfl,P2.same (g1.trans (g2.trans g3)),s2.trans (g1.trans (g2.trans g3))⟩
  clear nrp l1 hp1 hr1 P2 s2 H2
  rintro σ H2 ⟨r2,ns,rfl,nrp,l0,l1,hp1,hr1,P2,s2⟩
  refine Zay (fun σ Hx=>∃(x:Addr) (ts:List Int) (c:Int),σ=[some (.ref sc),some (.int (0+(i:Int))),some (.ref p),some (.ref r2),some (.ref x),some (.ref h),some (.int C),some (.int b),some (.int c),v9]/\ts.length<=16/\Plain c ts/\Hx x=some (.lst (ts.map V.int))/\Hx r2=some (.lst (ns.map V.int))/\Zu Hx p/\Zf H Hx) (λR hR=>?_) ?_
  ·walk_at "rd"
   exact⟨p,16,rfl,by decide,by decide,P2,λt x1 ts b2 H3 zr lr hpl hx ht P3 e3=>⟨t,rfl,_,SqT.of ht,rfl,_,_,rfl,_,_,rfl,rfl,hR _ _ ⟨x1,ts,b2,rfl,by omega,hpl,hx,e3 _ _ nrp hr1,P3,s2.exc zp e3⟩⟩⟩
  clear hr1 P2 s2 H2
  rintro σ H2 ⟨x2,ts,c,rfl,l2,hp2,hx1,hr1,P2,s2⟩
  refine Zay (fun σ Hx=>σ=[some (.ref sc),some (.int (0+(i:Int))),some (.ref p),some (.ref r2),some (.ref x2),some (.ref h),some (.int C),some (.int b),some (.int c),some (.int (Zbj ts.length ns.length:Nat))]/\Hx=H2) (λR hR=>?_) ?_
  ·walk_at "rd"
   exact⟨_,.inl (SqL.of hx1),_,.inl (SqL.of hr1),ts.length,ns.length,by rw[Yf,Yf],l2,l1,hR _ _ ⟨rfl,rfl⟩⟩
  rintro σ H3 ⟨rfl,rfl⟩
  refine Zay (fun σ Hx=>σ=[some (.ref sc),some (.int (0+(i:Int))),some (.ref p),some (.ref r2),some (.ref x2),some (.ref h),some (.int C),some (.int b),some (.int c),some (.int ((if 1<ns.length/\b≠c then 0 else Zbj ts.length ns.length:Nat):Int))]/\Hx=H3) (λR hR=>?_) ?_
  ·walk_at "rd"
   have fin:∀(N M:Nat),N=M->(R [some (V.ref sc),some (V.int (0+(i:Int))),some (V.ref p),some (V.ref r2),some (V.ref x2),some (V.ref h),some (V.int C),some (V.int b),some (V.int c),some (V.int (N:Int))] H3↔R [some (V.ref sc),some (V.int (0+(i:Int))),some (V.ref p),some (V.ref r2),some (V.ref x2),some (V.ref h),some (V.int C),some (V.int b),some (V.int c),some (V.int (M:Int))] H3):=λN M e=>by rw[e]
   have base:=hR _ _ ⟨rfl,rfl⟩
   refine⟨_,.inl (SqL.of hr1),_,.inl (SqL.of hx1),Z3 (λz=>?_) λz=>⟨_,.inl (SqL.of hr1),Z3 (λy=>Z3 (λx=>?_) λx=>?_) λy=>?_⟩⟩
   ·refine(fin 0 _ ?_).mpr base
    rw[Yf,Yf]at z
    rw[ZbE _ _ (by omega)];simp
   ·refine(fin 0 _ ?_).mpr base
    rw[Yf]at y
    rw[Yc ⟨by omega,x⟩]
   ·refine(fin _ _ ?_).mpr base
    rw[Ya (λw=>w.2 (Classical.not_not.mp x))]
   ·refine(fin _ _ ?_).mpr base
    rw[Yf]at y
    rw[Ya (λw=>y (by omega))]
  rintro σ H4 ⟨rfl,rfl⟩
  walk_at "rd"
  exact⟨r2,x2,ns,ts,rfl,.inl hr1,.inl hx1,l0,l1,l2,λT H5 hT s5=>⟨by first|rfl|simp[Zd1],Z3 (λz=>absurd (by rw[ZjX hT (by omega) l0 hp1 hp2]) z) λ_=>s2.trans s5⟩⟩
 ·rintro σ Hx ⟨v1,v2,v3,v4,v5,v6,v7,v8,v9,rfl,sx⟩
  walk_at "rd"
  exact k1 _
end
theorem all_mk {l:PySem.W.OpenLaw}{w:World}{K:PySem.W.Frag}{h:Heap}{mg:Str->Option Value}{fa:Addr} (X:K.In h) (G:h.Ns mainGlobals mg) (hfa:mg "law"=some (.ref fa))
  {C_Holding:Addr} (n_Holding:nsIn K mainGlobals "Holding"=some (some (.ref C_Holding))) (pg_Holding:PySem.W.plainGet K C_Holding Str.empty=true) (hd_Holding:PySem.W.hasDictIn K C_Holding=true) (po_Holding:PySem.W.plainOver K C_Holding=true) (sa_Holding:PySem.W.findIn K (.ref C_Holding) "__setattr__"=some (some (.builtin "object.__setattr__"))) (mk_Holding:PySem.W.makesIn K C_Holding=true) (kc_Holding:keepIn K (.ref C_Holding)=true)
  (na_Holding_text:PySem.W.findIn K (.ref C_Holding) "text"=some none)
  (na_Holding_tree:PySem.W.findIn K (.ref C_Holding) "tree"=some none)
  (na_Holding_young:PySem.W.findIn K (.ref C_Holding) "young"=some none)
  (na_Holding_known:PySem.W.findIn K (.ref C_Holding) "known"=some none)
  {ZcR:Tok}{oc3_need_numbers:Value}{od3_need_numbers:Option Addr}{Zfb:Nat}{sl3_need_numbers:Array (Option Value)}
  (ZaV:nsIn K mainGlobals "need_numbers"=some (some (.ref Zc5))) (ZbH:K.lookup Zc5=some ⟨Zj2,Zj3,.func (fnOf "need_numbers" "need_numbers" (defArgs ZX) (defBody ZX) (defScope ZX) (.ref ZfM) Zj4 Zj5 Zj6 Zj7 Zfc Zj8),Zj9⟩) (ZbI:codeIn K Zfc "need_numbers"=true) (Zal:keepIn K (.ref Zc5)=true)
  (ZaW:K.lookup ZfM=some ⟨oc3_need_numbers,od3_need_numbers,.seq #[.int 1 ZcR] Zfb,sl3_need_numbers⟩)
  (ZfN:nsIn K mainGlobals "settle"=some (some (.ref ZhX))) (ZfO:K.lookup ZhX=some ⟨ZnS,ZnT,.func (fnOf "settle" "settle" (defArgs s_settle) (defBody s_settle) (defScope s_settle) .none ZnU ZnV ZnW ZnX Zj0 ZnY),ZnZ⟩) (ZfP:codeIn K Zj0 "settle"=true) (Zeb:keepIn K (.ref ZhX)=true)
  (ZeN:nsIn K mainGlobals "tree_of"=some (some (.ref ZgK))) (ZeO:K.lookup ZgK=some ⟨ZnF,ZnG,.func (fnOf "tree_of" "tree_of" (defArgs s_tree_of) (defBody s_tree_of) (defScope s_tree_of) .none ZnH ZnI ZnJ ZnK ZiK ZnL),ZnM⟩) (ZeP:codeIn K ZiK "tree_of"=true) (Zdr:keepIn K (.ref ZgK)=true)
  (ZdQ:nsIn K mainGlobals "young_of"=some (some (.ref ZfQ))) (ZdR:K.lookup ZfQ=some ⟨Zno,Znp,.func (fnOf "young_of" "young_of" (defArgs s_young_of) (defBody s_young_of) (defScope s_young_of) .none Znq Znr Zns Znt ZhY Znu),Znv⟩) (ZdS:codeIn K ZhY "young_of"=true) (Zcw:keepIn K (.ref ZfQ)=true)
  (Zcx:nsIn K mainGlobals "need_loose"=some (some (.ref Zec))) (Zcy:K.lookup Zec=some ⟨ZlG,ZlH,.func (fnOf "need_loose" "need_loose" (defArgs Zao) (defBody Zao) (defScope Zao) .none ZlI ZlJ ZlK ZlL Zgb ZlM),ZlN⟩) (Zcz:codeIn K Zgb "need_loose"=true) (Zbr:keepIn K (.ref Zec)=true)
  {f_Holding___init__:Addr}{od_Holding___init__ an_Holding___init__:Option Addr}{sl_Holding___init__:Array (Option Value)}{oc_Holding___init__ kV_Holding___init__ dc_Holding___init__ pm_Holding___init__ cd_Holding___init__ ct_Holding___init__:Value}
  (a_Holding___init__:PySem.W.findIn K (.ref C_Holding) "__init__"=some (some (.ref f_Holding___init__))) (i_Holding___init__:PySem.W.isFn K (.ref f_Holding___init__)=true) (l_Holding___init__:K.lookup f_Holding___init__=some ⟨oc_Holding___init__,od_Holding___init__,.func (fnOf "__init__" "Holding.__init__" (defArgs ZD) (defBody ZD) (defScope ZD) .none kV_Holding___init__ dc_Holding___init__ pm_Holding___init__ an_Holding___init__ cd_Holding___init__ ct_Holding___init__),sl_Holding___init__⟩) (c_Holding___init__:codeIn K cd_Holding___init__ "Holding.__init__"=true) (k_Holding___init__:keepIn K (.ref f_Holding___init__)=true)
  {f_Holding_ways:Addr}{od_Holding_ways an_Holding_ways:Option Addr}{sl_Holding_ways:Array (Option Value)}{oc_Holding_ways kV_Holding_ways dc_Holding_ways pm_Holding_ways cd_Holding_ways ct_Holding_ways:Value}
  (a_Holding_ways:PySem.W.findIn K (.ref C_Holding) "ways"=some (some (.ref f_Holding_ways))) (i_Holding_ways:PySem.W.isFn K (.ref f_Holding_ways)=true) (l_Holding_ways:K.lookup f_Holding_ways=some ⟨oc_Holding_ways,od_Holding_ways,.func (fnOf "ways" "Holding.ways" (defArgs ZY) (defBody ZY) (defScope ZY) .none kV_Holding_ways dc_Holding_ways pm_Holding_ways an_Holding_ways cd_Holding_ways ct_Holding_ways),sl_Holding_ways⟩) (c_Holding_ways:codeIn K cd_Holding_ways "Holding.ways"=true) (k_Holding_ways:keepIn K (.ref f_Holding_ways)=true)
  {f_Holding_fits:Addr}{od_Holding_fits an_Holding_fits:Option Addr}{sl_Holding_fits:Array (Option Value)}{oc_Holding_fits kV_Holding_fits dc_Holding_fits pm_Holding_fits cd_Holding_fits ct_Holding_fits:Value}
  (a_Holding_fits:PySem.W.findIn K (.ref C_Holding) "fits"=some (some (.ref f_Holding_fits))) (i_Holding_fits:PySem.W.isFn K (.ref f_Holding_fits)=true) (l_Holding_fits:K.lookup f_Holding_fits=some ⟨oc_Holding_fits,od_Holding_fits,.func (fnOf "fits" "Holding.fits" (defArgs ZZ) (defBody ZZ) (defScope ZZ) .none kV_Holding_fits dc_Holding_fits pm_Holding_fits an_Holding_fits cd_Holding_fits ct_Holding_fits),sl_Holding_fits⟩) (c_Holding_fits:codeIn K cd_Holding_fits "Holding.fits"=true) (k_Holding_fits:keepIn K (.ref f_Holding_fits)=true)
  {f_Holding_ways_at:Addr}{od_Holding_ways_at an_Holding_ways_at:Option Addr}{sl_Holding_ways_at:Array (Option Value)}{oc_Holding_ways_at kV_Holding_ways_at dc_Holding_ways_at pm_Holding_ways_at cd_Holding_ways_at ct_Holding_ways_at:Value}
  (a_Holding_ways_at:PySem.W.findIn K (.ref C_Holding) "ways_at"=some (some (.ref f_Holding_ways_at))) (i_Holding_ways_at:PySem.W.isFn K (.ref f_Holding_ways_at)=true) (l_Holding_ways_at:K.lookup f_Holding_ways_at=some ⟨oc_Holding_ways_at,od_Holding_ways_at,.func (fnOf "ways_at" "Holding.ways_at" (defArgs ZH) (defBody ZH) (defScope ZH) .none kV_Holding_ways_at dc_Holding_ways_at pm_Holding_ways_at an_Holding_ways_at cd_Holding_ways_at ct_Holding_ways_at),sl_Holding_ways_at⟩) (c_Holding_ways_at:codeIn K cd_Holding_ways_at "Holding.ways_at"=true) (k_Holding_ways_at:keepIn K (.ref f_Holding_ways_at)=true)
  (ZcA:nsIn K mainGlobals "many_loose"=some (some (.ref Zed))) (ZcB:K.lookup Zed=some ⟨ZlO,ZlP,.func (fnOf "many_loose" "many_loose" (defArgs Zap) (defBody Zap) (defScope Zap) .none ZlQ ZlR ZlS ZlT Zgc ZlU),ZlV⟩) (ZcC:codeIn K Zgc "many_loose"=true) (Zbs:keepIn K (.ref Zed)=true)
  (Zc6:nsIn K mainGlobals "_law_deal"=some (some (.ref ZeU))) (Zc7:K.lookup ZeU=some ⟨ZmS,ZmT,.func (fnOf "_law_deal" "_law_deal" (defArgs ZaH) (defBody ZaH) (defScope ZaH) .none ZmU ZmV ZmW ZmX Zhf ZmY),ZmZ⟩) (Zc8:codeIn K Zhf "_law_deal"=true) (ZbU:keepIn K (.ref ZeU)=true)
  (Zc9:nsIn K mainGlobals "_law_take"=some (some (.ref ZeV))) (Zda:K.lookup ZeV=some ⟨Zm0,Zm1,.func (fnOf "_law_take" "_law_take" (defArgs ZaI) (defBody ZaI) (defScope ZaI) .none Zm2 Zm3 Zm4 Zm5 Zhg Zm6),Zm7⟩) (Zdb:codeIn K Zhg "_law_take"=true) (ZbV:keepIn K (.ref ZeV)=true)
  (ZcD:nsIn K mainGlobals "_law_whole"=some (some (.ref Zee))) (ZcE:K.lookup Zee=some ⟨ZlW,ZlX,.func (fnOf "_law_whole" "_law_whole" (defArgs Zaq) (defBody Zaq) (defScope Zaq) .none ZlY ZlZ Zl0 Zl1 Zgd Zl2),Zl3⟩) (ZcF:codeIn K Zgd "_law_whole"=true) (Zbt:keepIn K (.ref Zee)=true)
  (ZdT:nsIn K mainGlobals "_law_row"=some (some (.ref ZfR))) (ZdU:K.lookup ZfR=some ⟨Znw,Znx,.func (fnOf "_law_row" "_law_row" (defArgs Za4) (defBody Za4) (defScope Za4) .none Zny Znz ZnA ZnB ZhZ ZnC),ZnD⟩) (ZdV:codeIn K ZhZ "_law_row"=true) (ZcG:keepIn K (.ref ZfR)=true)
  (ZcH:nsIn K mainGlobals "_law_elder"=some (some (.ref Zef))) (ZcI:K.lookup Zef=some ⟨Zl4,Zl5,.func (fnOf "_law_elder" "_law_elder" (defArgs Zar) (defBody Zar) (defScope Zar) .none Zl6 Zl7 Zl8 Zl9 Zge Zma),Zmb⟩) (ZcJ:codeIn K Zge "_law_elder"=true) (Zbu:keepIn K (.ref Zef)=true)
  (Zdc:nsIn K mainGlobals "_law_tree"=some (some (.ref ZeW))) (Zdd:K.lookup ZeW=some ⟨Zm8,Zm9,.func (fnOf "_law_tree" "_law_tree" (defArgs s__law_tree) (defBody s__law_tree) (defScope s__law_tree) .none Zna Znb Znc Znd Zhh Zne),Znf⟩) (Zde:codeIn K Zhh "_law_tree"=true) (ZbW:keepIn K (.ref ZeW)=true)
  (Zb7:nsIn K mainGlobals "_law_either"=some (some (.ref ZdA))) (Zb8:K.lookup ZdA=some ⟨Zlb,Zlc,.func (fnOf "_law_either" "_law_either" (defArgs Zaa) (defBody Zaa) (defScope Zaa) .none Zld Zle Zlf Zlg ZfS Zlh),Zli⟩) (Zb9:codeIn K ZfS "_law_either"=true) (Za8:keepIn K (.ref ZdA)=true)
  (Zdf:nsIn K mainGlobals "_law_pair"=some (some (.ref ZeX))) (Zdg:K.lookup ZeX=some ⟨Zng,Znh,.func (fnOf "_law_pair" "_law_pair" (defArgs ZaJ) (defBody ZaJ) (defScope ZaJ) .none Zni Znj Znk Znl Zhi Znm),Znn⟩) (Zdh:codeIn K Zhi "_law_pair"=true) (ZbX:keepIn K (.ref ZeX)=true)
  (Zca:nsIn K mainGlobals "_law_tuples"=some (some (.ref ZdB))) (Zcb:K.lookup ZdB=some ⟨Zlj,Zlk,.func (fnOf "_law_tuples" "_law_tuples" (defArgs Zab) (defBody Zab) (defScope Zab) .none Zll Zlm Zln Zlo ZfT Zlp),Zlq⟩) (Zcc:codeIn K ZfT "_law_tuples"=true) (Za9:keepIn K (.ref ZdB)=true)
  (ZbJ:nsIn K mainGlobals "_law_holding"=some (some (.ref Zdi))) (ZbK:K.lookup Zdi=some ⟨Zka,Zkb,.func (fnOf "_law_holding" "_law_holding" (defArgs Z0) (defBody Z0) (defScope Z0) .none Zkc Zkd Zke Zkf Zfd Zkg),Zkh⟩) (ZbL:codeIn K Zfd "_law_holding"=true) (ZaX:keepIn K (.ref Zdi)=true)
  (Zcd:nsIn K mainGlobals "_law_chosen"=some (some (.ref ZdC))) (Zce:K.lookup ZdC=some ⟨Zlr,Zls,.func (fnOf "_law_chosen" "_law_chosen" (defArgs Zac) (defBody Zac) (defScope Zac) .none Zlt Zlu Zlv Zlw ZfU Zlx),Zly⟩) (Zcf:codeIn K ZfU "_law_chosen"=true) (Zba:keepIn K (.ref ZdC)=true)
  (ZcK:nsIn K mainGlobals "_law_plain"=some (some (.ref Zeg))) (ZcL:K.lookup Zeg=some ⟨Zmc,Zmd,.func (fnOf "_law_plain" "_law_plain" (defArgs Zas) (defBody Zas) (defScope Zas) .none Zme Zmf Zmg Zmh Zgf Zmi),Zmj⟩) (ZcM:codeIn K Zgf "_law_plain"=true) (Zbv:keepIn K (.ref Zeg)=true)
  (ZaD:nsIn K mainGlobals "_law_wider_right"=some (some (.ref ZbM))) (ZaE:K.lookup ZbM=some ⟨Zh5,Zh6,.func (fnOf "_law_wider_right" "_law_wider_right" (defArgs ZE) (defBody ZE) (defScope ZE) .none Zh7 Zh8 Zh9 Zia Zdw Zib),Zic⟩) (ZaF:codeIn K Zdw "_law_wider_right"=true) (Z8:keepIn K (.ref ZbM)=true)
  (Zlz:nsIn K mainGlobals "law"=some (some (.ref ZnE))) (ZlA:K.lookup ZnE=some ⟨Zn1,Zn2,.func (fnOf "law" "law" (defArgs s_law) (defBody s_law) (defScope s_law) .none ZnN ZnO ZnP ZnQ ZlB ZnR),Zn3⟩) (ZlC:codeIn K ZlB "law"=true) (ZlD:keepIn K (.ref ZnE)=true)
  {C_DipError:Addr} (n_DipError:nsIn K mainGlobals "DipError"=some (some (.ref C_DipError))) (x_DipError:PySem.W.excIn K C_DipError bmV newV=true) (d_DipError:PySem.W.hasDictIn K C_DipError=true) (y_DipError:PySem.W.typeIn K (.ref C_DipError)=some (.type "type"))
  {C_Empty:Addr} (n_Empty:nsIn K mainGlobals "Empty"=some (some (.ref C_Empty))) (x_Empty:PySem.W.excIn K C_Empty bmV newV=true) (d_Empty:PySem.W.hasDictIn K C_Empty=true) (y_Empty:PySem.W.typeIn K (.ref C_Empty)=some (.type "type"))
  {C_TooMany:Addr} (n_TooMany:nsIn K mainGlobals "TooMany"=some (some (.ref C_TooMany))) (x_TooMany:PySem.W.excIn K C_TooMany bmV newV=true) (d_TooMany:PySem.W.hasDictIn K C_TooMany=true) (y_TooMany:PySem.W.typeIn K (.ref C_TooMany)=some (.type "type"))
  (b_bool:nsIn K mainGlobals "bool"=some none)
  (b_enumerate:nsIn K mainGlobals "enumerate"=some none)
  (b_int:nsIn K mainGlobals "int"=some none)
  (b_isinstance:nsIn K mainGlobals "isinstance"=some none)
  (b_len:nsIn K mainGlobals "len"=some none)
  (b_list:nsIn K mainGlobals "list"=some none)
  (b_max:nsIn K mainGlobals "max"=some none)
  (b_min:nsIn K mainGlobals "min"=some none)
  (b_range:nsIn K mainGlobals "range"=some none)
  (b_sum:nsIn K mainGlobals "sum"=some none)
  (b_tuple:nsIn K mainGlobals "tuple"=some none)
  {t_MOST_HELD:Tok} (m_MOST_HELD:nsIn K mainGlobals "MOST_HELD"=some (some (.int 6 t_MOST_HELD)))
  {t_MOST_HOLDING:Tok} (m_MOST_HOLDING:nsIn K mainGlobals "MOST_HOLDING"=some (some (.int 16 t_MOST_HOLDING)))
  : ∃fd:FuncData,(∀(s:Shared) (v:Value),BindsTo s fd ⟨[v],[]⟩ [("script",v)])/\∀base:Heap,K.In base->base.Ns mainGlobals mg->FnOk l.prog w K mg base (CXE l.prog w) 25 fa fd ["script"] (spLaw K):=by
 have e:=hfa.symm.trans (mg_of X G Zlz)
 cases e
 have q_DipError:clsAt mg "DipError"=C_DipError:=by unfold clsAt;rw[mg_of X G n_DipError]
 have q_Empty:clsAt mg "Empty"=C_Empty:=by unfold clsAt;rw[mg_of X G n_Empty]
 have q_TooMany:clsAt mg "TooMany"=C_TooMany:=by unfold clsAt;rw[mg_of X G n_TooMany]
 have q_Holding:clsAt mg "Holding"=C_Holding:=by unfold clsAt;rw[mg_of X G n_Holding]
 have q_MOST_HELD:tokAt mg "MOST_HELD"=t_MOST_HELD:=by unfold tokAt;rw[mg_of X G m_MOST_HELD]
 have q_MOST_HOLDING:tokAt mg "MOST_HOLDING"=t_MOST_HOLDING:=by unfold tokAt;rw[mg_of X G m_MOST_HOLDING]
 have T:Txt K mg:={
  b_bool:=mg_none_of X G b_bool
  b_enumerate:=mg_none_of X G b_enumerate
  b_int:=mg_none_of X G b_int
  b_isinstance:=mg_none_of X G b_isinstance
  b_len:=mg_none_of X G b_len
  b_list:=mg_none_of X G b_list
  b_max:=mg_none_of X G b_max
  b_min:=mg_none_of X G b_min
  b_range:=mg_none_of X G b_range
  b_sum:=mg_none_of X G b_sum
  b_tuple:=mg_none_of X G b_tuple
  c_DipError:=by rw[q_DipError];exact mg_of X G n_DipError
  x_DipError:=by rw[q_DipError];exact x_DipError
  c_Empty:=by rw[q_Empty];exact mg_of X G n_Empty
  x_Empty:=by rw[q_Empty];exact x_Empty
  c_TooMany:=by rw[q_TooMany];exact mg_of X G n_TooMany
  x_TooMany:=by rw[q_TooMany];exact x_TooMany
  c_Holding:=by rw[q_Holding];exact mg_of X G n_Holding
  cl_Holding:=by rw[q_Holding];exact⟨pg_Holding,hd_Holding,po_Holding,sa_Holding⟩
  n_Holding_text:=by rw[q_Holding];exact na_Holding_text
  n_Holding_tree:=by rw[q_Holding];exact na_Holding_tree
  n_Holding_young:=by rw[q_Holding];exact na_Holding_young
  n_Holding_known:=by rw[q_Holding];exact na_Holding_known
  m_MOST_HELD:=by rw[q_MOST_HELD];exact mg_of X G m_MOST_HELD
  m_MOST_HOLDING:=by rw[q_MOST_HOLDING];exact mg_of X G m_MOST_HOLDING
 }
 have ZaY:=ZmG (st:=ZX) ZbH ZbI Zal
 have ZfV:=ZaY.binds (ps:=["row","fewest"]) (ds:=[]) ZaW λ_ _ _ _ _ _ us hl=>by obtain⟨x0,u0,rfl,h0⟩:=le1 (show us.length=2 by simpa using hl);obtain⟨x1,u1,rfl,h1⟩:=le1 h0;obtain rfl:=le0 h1;exact⟨_,rfl,rfl⟩
 have Zfe:=ZaY.binds (ps:=["row","fewest"]) (ds:=[.int 1 ZcR]) ZaW λ_ _ _ _ _ _ us hl=>by obtain⟨x0,u0,rfl,h0⟩:=le1 (show us.length=1 from Nat.succ.inj (Yy.symm.trans hl));obtain rfl:=le0 h0;exact⟨_,rfl,rfl⟩
 have Zh0:=ZK (st:=s_settle) ZfO ZfP Zeb
 have ZlE:=Zh0.binds (ps:=["elders","spine","place","keep"]) λ_ _ _ _ _ _ us hl=>by obtain⟨x0,u0,rfl,h0⟩:=le1 hl;obtain⟨x1,u1,rfl,h1⟩:=le1 h0;obtain⟨x2,u2,rfl,h2⟩:=le1 h1;obtain⟨x3,u3,rfl,h3⟩:=le1 h2;obtain rfl:=le0 h3;exact rfl
 have ZgL:=ZK (st:=s_tree_of) ZeO ZeP Zdr
 have Zj1:=ZgL.binds (ps:=["row"]) λ_ _ _ _ _ _ us hl=>by obtain⟨x0,u0,rfl,h0⟩:=le1 hl;obtain rfl:=le0 h0;exact rfl
 have ZfW:=ZK (st:=s_young_of) ZdR ZdS Zcw
 have ZiL:=ZfW.binds (ps:=["tree"]) λ_ _ _ _ _ _ us hl=>by obtain⟨x0,u0,rfl,h0⟩:=le1 hl;obtain rfl:=le0 h0;exact rfl
 have Zeh:=ZK (st:=Zao) Zcy Zcz Zbr
 have Zhj:=Zeh.binds (ps:=["row","text"]) λ_ _ _ _ _ _ us hl=>by obtain⟨x0,u0,rfl,h0⟩:=le1 hl;obtain⟨x1,u1,rfl,h1⟩:=le1 h0;obtain rfl:=le0 h1;exact rfl
 have F_Holding___init__:=ZK (st:=ZD) l_Holding___init__ c_Holding___init__ k_Holding___init__
 have B_Holding___init__:=F_Holding___init__.binds (ps:=["self","row","text"]) λ_ _ _ _ _ _ us hl=>by obtain⟨x0,u0,rfl,h0⟩:=le1 hl;obtain⟨x1,u1,rfl,h1⟩:=le1 h0;obtain⟨x2,u2,rfl,h2⟩:=le1 h1;obtain rfl:=le0 h2;exact rfl
 have F_Holding_ways:=ZK (st:=ZY) l_Holding_ways c_Holding_ways k_Holding_ways
 have B_Holding_ways:=F_Holding_ways.binds (ps:=["self","v","a","b"]) λ_ _ _ _ _ _ us hl=>by obtain⟨x0,u0,rfl,h0⟩:=le1 hl;obtain⟨x1,u1,rfl,h1⟩:=le1 h0;obtain⟨x2,u2,rfl,h2⟩:=le1 h1;obtain⟨x3,u3,rfl,h3⟩:=le1 h2;obtain rfl:=le0 h3;exact rfl
 have F_Holding_fits:=ZK (st:=ZZ) l_Holding_fits c_Holding_fits k_Holding_fits
 have B_Holding_fits:=F_Holding_fits.binds (ps:=["self","v","a","b","i"]) λ_ _ _ _ _ _ us hl=>by obtain⟨x0,u0,rfl,h0⟩:=le1 hl;obtain⟨x1,u1,rfl,h1⟩:=le1 h0;obtain⟨x2,u2,rfl,h2⟩:=le1 h1;obtain⟨x3,u3,rfl,h3⟩:=le1 h2;obtain⟨x4,u4,rfl,h4⟩:=le1 h3;obtain rfl:=le0 h4;exact rfl
 have F_Holding_ways_at:=ZK (st:=ZH) l_Holding_ways_at c_Holding_ways_at k_Holding_ways_at
 have B_Holding_ways_at:=F_Holding_ways_at.binds (ps:=["self","v","a","b","i"]) λ_ _ _ _ _ _ us hl=>by obtain⟨x0,u0,rfl,h0⟩:=le1 hl;obtain⟨x1,u1,rfl,h1⟩:=le1 h0;obtain⟨x2,u2,rfl,h2⟩:=le1 h1;obtain⟨x3,u3,rfl,h3⟩:=le1 h2;obtain⟨x4,u4,rfl,h4⟩:=le1 h3;obtain rfl:=le0 h4;exact rfl
 have Zei:=ZK (st:=Zap) ZcB ZcC Zbs
 have Zhk:=Zei.binds (ps:=["row","text"]) λ_ _ _ _ _ _ us hl=>by obtain⟨x0,u0,rfl,h0⟩:=le1 hl;obtain⟨x1,u1,rfl,h1⟩:=le1 h0;obtain rfl:=le0 h1;exact rfl
 have ZeY:=ZK (st:=ZaH) Zc7 Zc8 ZbU
 have Zh1:=ZeY.binds (ps:=["script","k"]) λ_ _ _ _ _ _ us hl=>by obtain⟨x0,u0,rfl,h0⟩:=le1 hl;obtain⟨x1,u1,rfl,h1⟩:=le1 h0;obtain rfl:=le0 h1;exact rfl
 have ZeZ:=ZK (st:=ZaI) Zda Zdb ZbV
 have Zh2:=ZeZ.binds (ps:=["pot","many"]) λ_ _ _ _ _ _ us hl=>by obtain⟨x0,u0,rfl,h0⟩:=le1 hl;obtain⟨x1,u1,rfl,h1⟩:=le1 h0;obtain rfl:=le0 h1;exact rfl
 have Zej:=ZK (st:=Zaq) ZcE ZcF Zbt
 have Zhl:=Zej.binds (ps:=["thing"]) λ_ _ _ _ _ _ us hl=>by obtain⟨x0,u0,rfl,h0⟩:=le1 hl;obtain rfl:=le0 h0;exact rfl
 have ZfX:=ZK (st:=Za4) ZdU ZdV ZcG
 have ZiM:=ZfX.binds (ps:=["pot","most"]) λ_ _ _ _ _ _ us hl=>by obtain⟨x0,u0,rfl,h0⟩:=le1 hl;obtain⟨x1,u1,rfl,h1⟩:=le1 h0;obtain rfl:=le0 h1;exact rfl
 have Zek:=ZK (st:=Zar) ZcI ZcJ Zbu
 have Zhm:=Zek.binds (ps:=["row","place"]) λ_ _ _ _ _ _ us hl=>by obtain⟨x0,u0,rfl,h0⟩:=le1 hl;obtain⟨x1,u1,rfl,h1⟩:=le1 h0;obtain rfl:=le0 h1;exact rfl
 have Ze0:=ZK (st:=s__law_tree) Zdd Zde ZbW
 have Zh3:=Ze0.binds (ps:=["row"]) λ_ _ _ _ _ _ us hl=>by obtain⟨x0,u0,rfl,h0⟩:=le1 hl;obtain rfl:=le0 h0;exact rfl
 have ZdD:=ZK (st:=Zaa) Zb8 Zb9 Za8
 have Zgg:=ZdD.binds (ps:=["pot","some"]) λ_ _ _ _ _ _ us hl=>by obtain⟨x0,u0,rfl,h0⟩:=le1 hl;obtain⟨x1,u1,rfl,h1⟩:=le1 h0;obtain rfl:=le0 h1;exact rfl
 have Ze1:=ZK (st:=ZaJ) Zdg Zdh ZbX
 have Zh4:=Ze1.binds (ps:=["pot","most","wide"]) λ_ _ _ _ _ _ us hl=>by obtain⟨x0,u0,rfl,h0⟩:=le1 hl;obtain⟨x1,u1,rfl,h1⟩:=le1 h0;obtain⟨x2,u2,rfl,h2⟩:=le1 h1;obtain rfl:=le0 h2;exact rfl
 have ZdE:=ZK (st:=Zab) Zcb Zcc Za9
 have Zgh:=ZdE.binds (ps:=["many","size"]) λ_ _ _ _ _ _ us hl=>by obtain⟨x0,u0,rfl,h0⟩:=le1 hl;obtain⟨x1,u1,rfl,h1⟩:=le1 h0;obtain rfl:=le0 h1;exact rfl
 have Zdj:=ZK (st:=Z0) ZbK ZbL ZaX
 have ZfY:=Zdj.binds (ps:=["row","text"]) λ_ _ _ _ _ _ us hl=>by obtain⟨x0,u0,rfl,h0⟩:=le1 hl;obtain⟨x1,u1,rfl,h1⟩:=le1 h0;obtain rfl:=le0 h1;exact rfl
 have ZdF:=ZK (st:=Zac) Zce Zcf Zba
 have Zgi:=ZdF.binds (ps:=["many","size"]) λ_ _ _ _ _ _ us hl=>by obtain⟨x0,u0,rfl,h0⟩:=le1 hl;obtain⟨x1,u1,rfl,h1⟩:=le1 h0;obtain rfl:=le0 h1;exact rfl
 have Zel:=ZK (st:=Zas) ZcL ZcM Zbv
 have Zhn:=Zel.binds (ps:=["pot","most"]) λ_ _ _ _ _ _ us hl=>by obtain⟨x0,u0,rfl,h0⟩:=le1 hl;obtain⟨x1,u1,rfl,h1⟩:=le1 h0;obtain rfl:=le0 h1;exact rfl
 have ZbN:=ZK (st:=ZE) ZaE ZaF Z8
 have ZdW:=ZbN.binds (ps:=["pot"]) λ_ _ _ _ _ _ us hl=>by obtain⟨x0,u0,rfl,h0⟩:=le1 hl;obtain rfl:=le0 h0;exact rfl
 have Zn0:=ZK (st:=s_law) ZlA ZlC ZlD
 refine⟨fnOf "law" "law" (defArgs s_law) (defBody s_law) (defScope s_law) .none ZnN ZnO ZnP ZnQ ZlB ZnR,λs v=>.of_eq rfl,λbase _ _=>?_⟩
 have ZlF:Callee l.prog w K mg base "need_numbers" 1 ["row","fewest"] (Zaz K mg):=⟨_,_,mg_of X G ZaV,Zal,ZfV,ZcQ ZaY T⟩
 have Zbl:Zg7 l.prog w K mg base "need_numbers" 1 ["row","fewest"] [V.int 1] (Zaz K mg):=⟨_,_,_,mg_of X G ZaV,Zal,Zfe,.cons ⟨_,rfl⟩ .nil,ZcQ ZaY T⟩
 have Zcu:Callee l.prog w K mg base "need_loose" 2 ["row","text"] (Zb0 K mg):=⟨_,_,mg_of X G Zcx,Zbr,Zhj,Zf8 Zeh Zbl T⟩
 have ZfL:Callee l.prog w K mg base "settle" 1 ["elders","spine","place","keep"] (sp_settle K mg):=⟨_,_,mg_of X G ZfN,Zeb,ZlE,ok_settle Zh0 T⟩
 have ZeM:Callee l.prog w K mg base "tree_of" 2 ["row"] (sp_tree_of K mg):=⟨_,_,mg_of X G ZeN,Zdr,Zj1,ok_tree_of ZgL ZfL T⟩
 have ZdP:Callee l.prog w K mg base "young_of" 1 ["tree"] (sp_young_of K mg):=⟨_,_,mg_of X G ZdQ,Zcw,ZiL,ok_young_of ZfW T⟩
 have GI_Holding:Zg8 l.prog w K mg base "Holding" 3 ["self","row","text"] (Zat K mg):=⟨_,_,by rw[q_Holding];exact⟨mk_Holding,a_Holding___init__,i_Holding___init__,kc_Holding⟩,by rw[q_Holding];exact mg_of X G n_Holding,B_Holding___init__,Zdu F_Holding___init__ ZeM ZdP T⟩
 have GM_Holding_fits:ZbS l.prog w K mg base "Holding" "fits" 1 ["self","v","a","b","i"] (Zbi K mg):=⟨_,_,T.cl_Holding,by rw[q_Holding];exact⟨a_Holding_fits,i_Holding_fits,k_Holding_fits⟩,B_Holding_fits,Ze8 F_Holding_fits T⟩
 have R_fam:∀n,ZbS l.prog w K mg base "Holding" "ways" (2+n) ["self","v","a","b"] (Zaf n K mg)/\ZbS l.prog w K mg base "Holding" "ways_at" (2+n) ["self","v","a","b","i"] (Zai n K mg):=λn=>by
  induction n with
  |zero=>exact⟨⟨_,_,T.cl_Holding,by rw[q_Holding];exact⟨a_Holding_ways,i_Holding_ways,k_Holding_ways⟩,B_Holding_ways,F_Holding_ways.okX (k:=1) Zbk (λvs H Q E h=>False.elim h) (λcdv A outer s H vs Q E hr h=>False.elim h)⟩,⟨_,_,T.cl_Holding,by rw[q_Holding];exact⟨a_Holding_ways_at,i_Holding_ways_at,k_Holding_ways_at⟩,B_Holding_ways_at,F_Holding_ways_at.okX (k:=1) Z6 (λvs H Q E h=>False.elim h) (λcdv A outer s H vs Q E hr h=>False.elim h)⟩⟩
  |succ n ih =>
   obtain⟨ih_Holding_ways,ih_Holding_ways_at⟩:=ih
   exact⟨⟨_,_,T.cl_Holding,by rw[q_Holding];exact⟨a_Holding_ways,i_Holding_ways,k_Holding_ways⟩,B_Holding_ways,Ze9 F_Holding_ways GM_Holding_fits ih_Holding_ways_at T⟩,⟨_,_,T.cl_Holding,by rw[q_Holding];exact⟨a_Holding_ways_at,i_Holding_ways_at,k_Holding_ways_at⟩,B_Holding_ways_at,ZdO F_Holding_ways_at ih_Holding_ways T⟩⟩
 obtain⟨GM_Holding_ways,GM_Holding_ways_at⟩:=R_fam 20
 have Z7:Callee l.prog w K mg base "many_loose" 23 ["row","text"] (Za7 K mg):=⟨_,_,mg_of X G ZcA,Zbs,Zhk,Zf9 Zei Zcu GI_Holding GM_Holding_ways T⟩
 have Zc3:Callee l.prog w K mg base "_law_deal" 1 ["script","k"] (Zcr K mg):=⟨_,_,mg_of X G Zc6,ZbU,Zh1,Zhc ZeY T⟩
 have Zcv:Callee l.prog w K mg base "_law_whole" 1 ["thing"] (ZbZ K mg):=⟨_,_,mg_of X G ZcD,Zbt,Zhl,Zf7 Zej T⟩
 have Zj:Callee l.prog w K mg base "_law_take" 1 ["pot","many"] (Z5 K mg):=⟨_,_,mg_of X G Zc9,ZbV,Zh2,Zhd ZeZ T⟩
 have ZP:Callee l.prog w K mg base "_law_either" 2 ["pot","some"] (ZaT K mg):=⟨_,_,mg_of X G Zb7,Za8,Zgg,ZfH ZdD Zj T⟩
 have Zak:Callee l.prog w K mg base "_law_row" 2 ["pot","most"] (sp__law_row K mg):=⟨_,_,mg_of X G ZdT,ZcG,ZiM,ZhU ZfX Zj T⟩
 have Zc4:Callee l.prog w K mg base "_law_pair" 3 ["pot","most","wide"] (Zcs K mg):=⟨_,_,mg_of X G Zdf,ZbX,Zh4,Zhe Ze1 Zj Zak T⟩
 have Zct:Callee l.prog w K mg base "_law_elder" 1 ["row","place"] (Zb1 K mg):=⟨_,_,mg_of X G ZcH,Zbu,Zhm,Zf6 Zek T⟩
 have ZbT:Callee l.prog w K mg base "_law_tree" 2 ["row"] (sp__law_tree K mg):=⟨_,_,mg_of X G Zdc,ZbW,Zh3,ok__law_tree Ze0 Zct T⟩
 have Zb5:Callee l.prog w K mg base "_law_tuples" 1 ["many","size"] (ZbF K mg):=⟨_,_,mg_of X G Zca,Za9,Zgh,ZfJ ZdE T⟩
 have Z2:Callee l.prog w K mg base "_law_holding" 3 ["row","text"] (ZaA K mg):=⟨_,_,mg_of X G ZbJ,ZaX,ZfY,Zfa Zdj ZbT Zb5 T⟩
 have Zb6:Callee l.prog w K mg base "_law_chosen" 1 ["many","size"] (ZbG K mg):=⟨_,_,mg_of X G Zcd,Zba,Zgi,ZfK ZdF T⟩
 have Zbq:Callee l.prog w K mg base "_law_plain" 2 ["pot","most"] (Zb2 K mg):=⟨_,_,mg_of X G ZcK,Zbv,Zhn,Zga Zel Zj T⟩
 have ZaC:Callee l.prog w K mg base "_law_wider_right" 24 ["pot"] (Zau K mg):=⟨_,_,mg_of X G ZaD,Z8,ZdW,Zdv ZbN Z7 Zj Zak ZP Z2 T⟩
 exact ok_law Zn0 Z7 Zc3 Zcv ZP Zc4 Z2 Zb6 Zbq ZaC T
theorem walk {l:PySem.W.OpenLaw}{q:Program}{loose:List Str}{XP:(Str->Option Value)->Heap->Prop}{YP:World->Heap->Prop}{d:DefRec}{K:Params->PySem.W.Frag} (hn:l.most=some 63) (hdf:d.params.defaults=[])
  (hY:∀(w:World) (h:Heap),YP w h->(K w.params).In h)
  (F:∀(w:World) (mg:Str->Option Value) (fa:Addr) (h:Heap),(K w.params).In h->h.Ns mainGlobals mg->mg d.name=some (.ref fa) ->
   ∃fd:FuncData,(∀(s:Shared) (u:Value),BindsTo s fd ⟨[u],[]⟩ [("script",u)])/\∀base:Heap,(K w.params).In base->base.Ns mainGlobals mg->FnOk l.prog w (K w.params) mg base (CXE l.prog w) 25 fa fd ["script"] (spLaw (K w.params))) :
  PySem.W.WalkO q loose XP YP l.row.toRowW d [] (λf vs=>PySem.call f vs) :=
 L2.Zms (n:=63) (k:=25) (x:="script") (CX:=λw=>CXE l.prog w) (sp:=λw=>spLaw (K w.params)) hn (by decide) hdf ⟨rfl,by decide,by decide⟩ hY F (λ_ _ a ns hl _ hS=>⟨a,ns,rfl,hS,hl,λ_=>rfl⟩) λ_ _ _ _ _ ⟨_,_,_,_,_,_,_,z⟩=>z
end K54
def PySem.W.Fast.tw3712239273925315987:Unit:=()
def PySem.W.Fast.tw5814697223842823101:Unit:=()
def PySem.W.Fast.tw5105051744526404168:Unit:=()
def PySem.W.Fast.tw11147024661292090607:Unit:=()
def PySem.W.Fast.tw17949186708724841607:Unit:=()
def PySem.W.Fast.tw744101892334187938:Unit:=()
def PySem.W.Fast.tw4988071175175187731:Unit:=()
def PySem.W.Fast.tw382287846937935687:Unit:=()
def PySem.W.Fast.tw10229701898315613526:Unit:=()
def PySem.W.Fast.tw17949997177580653071:Unit:=()
def PySem.W.Fast.tw10734696783186229342:Unit:=()
def PySem.W.Fast.tw18208151611660365912:Unit:=()
def PySem.W.Fast.tw5564507722316044160:Unit:=()
def PySem.W.Fast.tw14148071341268591797:Unit:=()
def PySem.W.Fast.tw6875361752712357772:Unit:=()
def PySem.W.Fast.tw10606628472387442114:Unit:=()
def PySem.W.Fast.tw10946696561103016676:Unit:=()
def PySem.W.Fast.tw15219062478974278760:Unit:=()
def PySem.W.Fast.tw3935704938311375364:Unit:=()
def PySem.W.Fast.tw9482981278436814401:Unit:=()
def PySem.W.Fast.tw11538505752058800193:Unit:=()
def PySem.W.Fast.tw10369121893033359188:Unit:=()
def PySem.W.Fast.tw6741759820966472057:Unit:=()
def PySem.W.Fast.tw7432473024044524854:Unit:=()
def PySem.W.Fast.tw10533362195791166726:Unit:=()
def PySem.W.Fast.tw3544024413679068451:Unit:=()
def PySem.W.Fast.tw6151410119018557401:Unit:=()
def PySem.W.Fast.tw3312309826399976028:Unit:=()
def PySem.W.Fast.tw6465740173110393539:Unit:=()
def PySem.W.Fast.tw5530312534688150748:Unit:=()
def PySem.W.Fast.tw7608975169613013927:Unit:=()
def PySem.W.Fast.tw776312068737461839:Unit:=()
def PySem.W.Fast.tw13627082313054272999:Unit:=()
def PySem.W.Fast.tw8962043081963334230:Unit:=()
def PySem.W.Fast.tw14876592365712373793:Unit:=()
def PySem.W.Fast.tw988748368106273776:Unit:=()
def PySem.W.Fast.tw7532225776177309804:Unit:=()
def PySem.W.Fast.tw10205709426941097863:Unit:=()
def PySem.W.Fast.tw1515983876421964590:Unit:=()
def PySem.W.Fast.tw1391210387228331483:Unit:=()
def PySem.W.Fast.tw17001070267158525632:Unit:=()
def PySem.W.Fast.tw10246217381386620865:Unit:=()
def PySem.W.Fast.tw1349588689068817761:Unit:=()
def PySem.W.Fast.tw10300174155821504553:Unit:=()
def PySem.W.Fast.tw4827385935007511243:Unit:=()
def PySem.W.Fast.tw1798416408730089899:Unit:=()
def PySem.W.Fast.tw10094479960785959634:Unit:=()
def PySem.W.Fast.tw5133591375699709659:Unit:=()
def PySem.W.Fast.tw7094995124314908408:Unit:=()
def PySem.W.Fast.tw17701079269636267852:Unit:=()
def PySem.W.Fast.tw9694967731143641890:Unit:=()
def PySem.W.Fast.tw5379504997350939994:Unit:=()
def PySem.W.Fast.tw8724410113968501377:Unit:=()
def PySem.W.Fast.tw13187153353367627487:Unit:=()
def PySem.W.Fast.tw15922245411588941377:Unit:=()
def PySem.W.Fast.tw16021475163284540062:Unit:=()
def PySem.W.Fast.tw7468196745519577089:Unit:=()
def PySem.W.Fast.tw14326341033445110234:Unit:=()
def PySem.W.Fast.tw17259233992359090191:Unit:=()
def PySem.W.Fast.tw9219157281140421488:Unit:=()
def PySem.W.Fast.tw4156241075423699737:Unit:=()
def PySem.W.Fast.tw9817394649334844167:Unit:=()
def PySem.W.Fast.tw16069963247383450003:Unit:=()
def PySem.W.Fast.tw9818329911628761011:Unit:=()
def PySem.W.Fast.tw3734605179098060808:Unit:=()
def PySem.W.Fast.tw15415824312055039170:Unit:=()
def PySem.W.Fast.tw5698509201178213719:Unit:=()
def PySem.W.Fast.tw17717329319101666959:Unit:=()
def PySem.W.Fast.tw12139414113732521959:Unit:=()
def PySem.W.Fast.tw16031624332661924790:Unit:=()
def PySem.W.Fast.tw5560543358037255206:Unit:=()
open PySem PySem.W PyProof.Rows
set_option maxRecDepth 100000 in
set_option maxHeartbeats 0 in
theorem PySem.Challenge.cw_dipkin_k54_tuples_counted_holds : PySem.Challenge.rw_dipkin_k54_tuples_counted.Holds := by
 w_on;o_law;k_head;(case hw=>w_witness2)
 k_fill
 refine K54.walk (l:=PySem.Challenge.rw_dipkin_k54_tuples_counted) rfl rfl (λw h Y=>PySem.W.kIn_of Y) ?F
 case F =>
  intro w mg fa h KX G hmg
  refine' K54.all_mk KX G hmg ?n_Holding ?pg_Holding ?hd_Holding ?po_Holding ?sa_Holding ?mk_Holding ?kc_Holding ?na_Holding_text ?na_Holding_tree ?na_Holding_young ?na_Holding_known ?ZaV ?ZbH ?ZbI ?Zal ?ZaW ?ZfN ?ZfO ?ZfP ?Zeb ?ZeN ?ZeO ?ZeP ?Zdr ?ZdQ ?ZdR ?ZdS ?Zcw ?Zcx ?Zcy ?Zcz ?Zbr ?a_Holding___init__ ?i_Holding___init__ ?l_Holding___init__ ?c_Holding___init__ ?k_Holding___init__ ?a_Holding_ways ?i_Holding_ways ?l_Holding_ways ?c_Holding_ways ?k_Holding_ways ?a_Holding_fits ?i_Holding_fits ?l_Holding_fits ?c_Holding_fits ?k_Holding_fits ?a_Holding_ways_at ?i_Holding_ways_at ?l_Holding_ways_at ?c_Holding_ways_at ?k_Holding_ways_at ?ZcA ?ZcB ?ZcC ?Zbs ?Zc6 ?Zc7 ?Zc8 ?ZbU ?Zc9 ?Zda ?Zdb ?ZbV ?ZcD ?ZcE ?ZcF ?Zbt ?ZdT ?ZdU ?ZdV ?ZcG ?ZcH ?ZcI ?ZcJ ?Zbu ?Zdc ?Zdd ?Zde ?ZbW ?Zb7 ?Zb8 ?Zb9 ?Za8 ?Zdf ?Zdg ?Zdh ?ZbX ?Zca ?Zcb ?Zcc ?Za9 ?ZbJ ?ZbK ?ZbL ?ZaX ?Zcd ?Zce ?Zcf ?Zba ?ZcK ?ZcL ?ZcM ?Zbv ?ZaD ?ZaE ?ZaF ?Z8 ?Zlz ?ZlA ?ZlC ?ZlD ?n_DipError ?x_DipError ?d_DipError ?y_DipError ?n_Empty ?x_Empty ?d_Empty ?y_Empty ?n_TooMany ?x_TooMany ?d_TooMany ?y_TooMany ?b_bool ?b_enumerate ?b_int ?b_isinstance ?b_len ?b_list ?b_max ?b_min ?b_range ?b_sum ?b_tuple ?m_MOST_HELD ?m_MOST_HOLDING
  (case n_Holding|pg_Holding|hd_Holding|po_Holding|sa_Holding|mk_Holding|kc_Holding|na_Holding_text|na_Holding_tree|na_Holding_young|na_Holding_known|ZaV|ZbH|ZbI|Zal|ZaW|ZfN|ZfO|ZfP|Zeb|ZeN|ZeO|ZeP|Zdr|ZdQ|ZdR|ZdS|Zcw|Zcx|Zcy|Zcz|Zbr|a_Holding___init__|i_Holding___init__|l_Holding___init__|c_Holding___init__|k_Holding___init__|a_Holding_ways|i_Holding_ways|l_Holding_ways|c_Holding_ways|k_Holding_ways|a_Holding_fits|i_Holding_fits|l_Holding_fits|c_Holding_fits|k_Holding_fits|a_Holding_ways_at|i_Holding_ways_at|l_Holding_ways_at|c_Holding_ways_at|k_Holding_ways_at|ZcA|ZcB|ZcC|Zbs|Zc6|Zc7|Zc8|ZbU|Zc9|Zda|Zdb|ZbV|ZcD|ZcE|ZcF|Zbt|ZdT|ZdU|ZdV|ZcG|ZcH|ZcI|ZcJ|Zbu|Zdc|Zdd|Zde|ZbW|Zb7|Zb8|Zb9|Za8|Zdf|Zdg|Zdh|ZbX|Zca|Zcb|Zcc|Za9|ZbJ|ZbK|ZbL|ZaX|Zcd|Zce|Zcf|Zba|ZcK|ZcL|ZcM|Zbv|ZaD|ZaE|ZaF|Z8|Zlz|ZlA|ZlC|ZlD|n_DipError=>k_is)
  (case x_DipError=>k_exc)
  (case d_DipError|y_DipError|n_Empty=>k_is)
  (case x_Empty=>k_exc)
  (case d_Empty|y_Empty|n_TooMany=>k_is)
  (case x_TooMany=>k_exc)
  (case d_TooMany|y_TooMany|b_bool|b_enumerate|b_int|b_isinstance|b_len|b_list|b_max|b_min|b_range|b_sum|b_tuple|m_MOST_HELD|m_MOST_HOLDING=>k_is)
