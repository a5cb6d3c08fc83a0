import PyProof.Rows.All
import Wide.All
import OpenK.AllK
import Wide.FinOn
import Lean
import PyProof.EqAt
import PyProof.EqKinds
import PyProof.TupleCall
import PyProof.MeetsSeq
import PyProof.NeKinds
import PyProof.TupleOfSeq
import PyProof.ListRange
import PyProof.TupleOfGen
import PyProof.ZipIter
import KE.KRevIter
import PyProof.StrWalks
import PyProof.StrBlock2
import PyProof.MeetsStr
import PyProof.StrCalls2
import PyProof.StrLawsIn
import KE.KIntText
import PyProof.StrLawsTight
import PyProof.StrLawsChain
import PyProof.StrLawsAffix
import PyProof.Rows.StrItems
import PyProof.Rows.ReprOcc
import KE.KDictSum
import PyProof.Rows.SeqMore
import KE.KDictList
import KE.KStateDown
import PyProof.StrBlockI
import PySem.Challenge.RW_dipkin_k59_bounds_and_rows_refused
set_option Elab.async false
set_option linter.all false
set_option maxRecDepth 100000
set_option maxHeartbeats 4000000
set_option genSizeOfSpec false
local macro_rules | `(tactic| omega) => `(tactic| first | lia | omega (config := {}))
section
open PySem PySem.Spec PyProof.Rows
noncomputable abbrev Ya:=@wpAny_bind
noncomputable abbrev Yb:=@if_neg
noncomputable abbrev Yc:=@wpAny_pure
noncomputable abbrev Yd:=@if_pos
noncomputable abbrev Ye:=@wpS_bind
noncomputable abbrev Yf:=@Nat.le_refl
noncomputable abbrev Yg:=@wpS_pure
noncomputable abbrev Yh:=@List.getElem?_eq_getElem
noncomputable abbrev Yi:=@Heap.get?_push_of_some
noncomputable abbrev Yj:=@Heap.lt_size
noncomputable abbrev Yk:=@List.mem_append_right
noncomputable abbrev Yl:=@List.length_map
noncomputable abbrev Ym:=@List.mem_cons
noncomputable abbrev Yn:=@Nat.le_trans
noncomputable abbrev Yo:=@Nat.ne_of_lt
noncomputable abbrev Yp:=@List.getD_eq_getElem?_getD
noncomputable abbrev Yq:=@PySem.boot_len
noncomputable abbrev Yr:=@List.size_toArray
noncomputable abbrev Ys:=@Nat.lt_of_lt_of_le
noncomputable abbrev Yt:=@Nat.zero_le
noncomputable abbrev Yu:=@wpAny_mono
noncomputable abbrev Yv:=@Heap.get?_push_size
noncomputable abbrev Yw:=@List.getElem?_eq_some_iff
noncomputable abbrev Yx:=@List.mem_cons_self
noncomputable abbrev Yy:=@List.mem_append
noncomputable abbrev Yz:=@List.mem_cons_of_mem
noncomputable abbrev YA:=@Nat.lt_irrefl
noncomputable abbrev YB:=@Bool.false_ne_true
noncomputable abbrev YC:=@decide_eq_true
noncomputable abbrev YD:=@Option.some.inj
noncomputable abbrev YE:=@Nat.lt_of_le_of_lt
noncomputable abbrev YF:=@List.mem_range
noncomputable abbrev YG:=@List.mem_append_left
noncomputable abbrev YH:=@List.getElem?_map
noncomputable abbrev YI:=@List.append_assoc
noncomputable abbrev YJ:=@decide_eq_false
noncomputable abbrev YK:=@Array.length_toList
noncomputable abbrev YL:=@List.length_append
noncomputable abbrev YM:=@List.length_cons
noncomputable abbrev YN:=@Nat.lt_succ_of_lt
noncomputable abbrev YO:=@List.map_cons
noncomputable abbrev YQ:=@List.mem_map
noncomputable abbrev YR:=@List.getElem_mem
noncomputable abbrev YS:=@Nat.le_succ
noncomputable abbrev YT:=@List.range_succ
noncomputable abbrev YU:=@List.mem_filter
noncomputable abbrev YV:=@of_decide_eq_true
noncomputable abbrev YW:=@Nat.le_of_lt
noncomputable abbrev YX:=@List.map_append
noncomputable abbrev YY:=@List.length_take
noncomputable abbrev YZ:=@Int.eq_ofNat_of_zero_le
noncomputable abbrev Y0:=@List.mem_singleton
noncomputable abbrev Y1:=@List.pairwise_cons
noncomputable abbrev Y2:=@List.map_map
noncomputable abbrev Y3:=@List.take_append_drop
noncomputable abbrev Y4:=@List.getElem?_append_left
noncomputable abbrev Y5:=@Nat.le_of_eq
noncomputable abbrev Y6:=@Int.toNat_natCast
noncomputable abbrev Y7:=@List.take_add_one
noncomputable abbrev Y8:=@List.getElem?_append_right
noncomputable abbrev Y9:=@List.length_drop
noncomputable abbrev Ja:=@List.length_filter_le
noncomputable abbrev Jb:=@List.getElem_of_mem
noncomputable abbrev Jc:=@List.length_range
end
namespace L2
open PySem PySem.Spec PyProof.Rows
noncomputable abbrev Key:=Sum Int Str
noncomputable def keyIs:Key->Value->Bool
 |.inl k,v=>Value.isInt k v
 |.inr x,v=>Value.isStrOf x v
noncomputable def keyH (w:World):Key->Int
 |.inl k=>hashInt k
 |.inr x=>hashStr w x
theorem Z5:∀{k:Key}{v:Value},keyIs k v=true->(∃i t,k=Sum.inl i/\v=Value.int i t)\/(∃x t,k=Sum.inr x/\v=Value.str x t)
 |.inl i,v,h=>by
  obtain⟨t,e⟩:=Value.isInt_shape (k:=i) (v:=v) h
  exact .inl ⟨i,t,rfl,e⟩
 |.inr x,v,h=>by
  obtain⟨t,e⟩:=Value.isStrOf_shape (x:=x) (v:=v) h
  exact .inr ⟨x,t,rfl,e⟩
theorem key_ll (a b:Int):decide ((Sum.inl a:Key)=Sum.inl b)=(a==b):=by
 by_cases e:a=b
 ·subst e;simp
 ·have h:¬ (Sum.inl a:Key)=Sum.inl b:=λq=>e (Sum.inl.inj q)
  rw[YJ h]
  exact(beq_eq_false_iff_ne.mpr e).symm
theorem key_rr (a b:Str):decide ((Sum.inr a:Key)=Sum.inr b)=decide (a=b):=by
 by_cases e:a=b
 ·subst e;simp
 ·have h:¬ (Sum.inr a:Key)=Sum.inr b:=λq=>e (Sum.inr.inj q)
  rw[YJ h,YJ e]
theorem key_lr (a:Int) (b:Str):decide ((Sum.inl a:Key)=Sum.inr b)=false:=YJ (λq=>nomatch q)
theorem key_rl (a:Str) (b:Int):decide ((Sum.inr a:Key)=Sum.inl b)=false:=YJ (λq=>nomatch q)
noncomputable def Zml (prog:Program) (w:World):PySem.KeyKind prog w Key where
 is:=keyIs
 hash:=keyH w
 inj:=λv a b ha hb=>by
  rcases Z5 ha with⟨i,t,rfl,rfl⟩|⟨x,t,rfl,rfl⟩
  ·rcases Z5 hb with⟨j,u,rfl,e⟩|⟨y,u,rfl,e⟩
   ·injection e with e1 _;rw[e1]
   ·exact nomatch e
  ·rcases Z5 hb with⟨j,u,rfl,e⟩|⟨y,u,rfl,e⟩
   ·exact nomatch e
   ·injection e with e1 _;rw[e1]
 byValue:=λk v h=>by
  rcases Z5 h with⟨i,t,rfl,rfl⟩|⟨x,t,rfl,rfl⟩<;>rfl
 pyHash:=λhv h=>by
  rcases Z5 hv with⟨i,t,rfl,rfl⟩|⟨x,t,rfl,rfl⟩
  ·exact wpAny_pyHash_int h
  ·exact wpAny_pyHash_str h
 eqBool:=λhu hv h=>by
  rcases Z5 hu with⟨i,t,rfl,rfl⟩|⟨x,t,rfl,rfl⟩
  ·rcases Z5 hv with⟨j,u,rfl,rfl⟩|⟨y,u,rfl,rfl⟩
   ·rw[key_ll]at h;exact wpAny_eqBool_int h
   ·rw[key_lr]at h;exact SeqAt.EqAt.int_str i t y u _ _ _ _ h
  ·rcases Z5 hv with⟨j,u,rfl,rfl⟩|⟨y,u,rfl,rfl⟩
   ·rw[key_rl]at h;exact SeqAt.EqAt.str_int x t j u _ _ _ _ h
   ·rw[key_rr]at h;exact wpAny_eqBool_str h
 «strs»:=λk x t v h=>by
  rcases Z5 h with⟨i,u,rfl,e⟩|⟨y,u,rfl,e⟩
  ·exact nomatch e
  ·injection e with e1 _
   subst e1
   cases v<;>rfl
inductive V where
 |non|bl (b:Bool)|int (i:Int)|str (x:Str)|byt (b:Array UInt8)|flt (b:UInt64)|ref (a:Addr)|ty (n:String)
 deriving DecidableEq
noncomputable def RelV:V->Value->Prop
 |.non,u=>u=Value.none
 |.bl b,u=>u=Value.bool b
 |.int i,u=>∃t,u=Value.int i t
 |.str x,u=>∃t,u=Value.str x t
 |.byt b,u=>∃t,u=Value.bytes b t
 |.flt b,u=>∃t,u=Value.float b t
 |.ref a,u=>u=Value.ref a
 |.ty n,u=>u=Value.type n
noncomputable abbrev Vals:List V->List Value->Prop:=Paired RelV
theorem Vals.length {xs:List V}{us:List Value} (r:Vals xs us):xs.length=us.length:=Paired.length r
theorem Vals.get:∀{xs:List V}{us:List Value}{i:Nat}{x:V},Vals xs us->xs[i]?=some x->∃u,us[i]?=some u/\RelV x u
 |_,_,_,_,.nil,e=>by simp at e
 |_,_,0,_,.cons r _,e=>by simp at e;subst e;exact⟨_,rfl,r⟩
 |_,_,i+1,x,.cons _ t,e=>by
  obtain⟨u,h1,h2⟩:=Vals.get (i:=i) (x:=x) t (by simpa using e)
  exact⟨u,by simpa using h1,h2⟩
theorem Vals.set {x:V}{u:Value} (r:RelV x u):∀{xs:List V}{us:List Value} (i:Nat),Vals xs us->Vals (xs.set i x) (us.set i u)
 |_,_,_,.nil=>.nil
 |_,_,0,.cons _ t=>.cons r t
 |_,_,i+1,.cons q t=>.cons q (Vals.set r i t)
theorem Vals.append:∀{xs ys:List V}{us ws:List Value},Vals xs us->Vals ys ws->Vals (xs++ys) (us++ws)
 |_,_,_,_,.nil,s=>s
 |_,_,_,_,.cons r t,s=>.cons r (Vals.append t s)
theorem Vals.take:∀{xs:List V}{us:List Value} (n:Nat),Vals xs us->Vals (xs.take n) (us.take n)
 |_,_,0,_=>.nil
 |_,_,_+1,.nil=>.nil
 |_,_,n+1,.cons r t=>.cons r (Vals.take n t)
theorem Vals.drop:∀{xs:List V}{us:List Value} (n:Nat),Vals xs us->Vals (xs.drop n) (us.drop n)
 |_,_,0,r=>r
 |_,_,_+1,.nil=>.nil
 |_,_,n+1,.cons _ t=>Vals.drop n t
noncomputable def RelO:Option V->Option Value->Prop
 |some v,some u=>RelV v u
 |none,none=>True
 |_,_=>False
noncomputable def KV {κ:Type}:List (κ×V)->List (κ×Value)->Prop:=Paired λ(p:κ×V) (q:κ×Value)=>p.1=q.1/\RelV p.2 q.2
noncomputable def kV:Key->V
 |.inl i=>.int i
 |.inr x=>.str x
inductive HO where
 |lst (xs:List V)
 |tup (xs:List V)
 |dK (kvs:List (Key×V))|dT (kvs:List (List Key×V))
 |set (S:Int->Bool) (n:Nat)
 |ins (C dx:Addr) (fs:List (Str×V))
 |own (x:Addr)
 |xd (fs:List (Str×V))
 |met (f x:Addr)
 |rng (lo hi:Int)
 |frz (o:Obj) (u:HO)
 |tbl (ps:Array Value)
 |ext (φ:Heap->Prop)
noncomputable abbrev Hp:=Addr->Option HO
noncomputable def upd (H:Hp) (a:Addr) (o:HO):Hp:=λb=>if b=a then some o else H b
theorem Zc {H:Hp}{a:Addr}{o:HO}:upd H a o a=some o:=by unfold upd;rw[Yd rfl]
theorem Zj {H:Hp}{a b:Addr}{o:HO} (h:b≠a):upd H a o b=H b:=by unfold upd;rw[Yb h]
theorem Zv {H:Hp}{a b:Addr}{o:HO} (h:H a=some o) (h':H b=none):a≠b:=by
 intro e;subst e;rw[h]at h';cases h'
section
variable (P:Program) (w:World)
noncomputable def Zaf (H:Hp) (h:Heap) (a:Addr):HO->Prop
 |.lst xs=>xs.length<=sizeLine/\∃(its:List Value) (n:Nat),Vals xs its/\h.get? a=some {cls:=.type "list",data:=.seq its.toArray n}
 |.tup xs=>xs.length<=sizeLine/\∃its:List Value,Vals xs its/\IsTup h a its.toArray
 |.dK kvs=>kvs.length<=sizeLine/\(a==sysModules)=false/\∃vs,KV kvs vs/\h.DictOf (Zml P w) a vs
 |.dT kvs=>kvs.length<=sizeLine/\(a==sysModules)=false/\∃xs:List (List Key×Addr×Value),
   Paired (λ(p:List Key×V) (q:List Key×Addr×Value)=>p.1=q.1/\H q.2.1=some (.tup (p.1.map kV))/\RelV p.2 q.2.2) kvs xs /\
   ∃o es ep,h.get? a=some o/\o.ExactDict/\o.data=.dict es ep/\es.toList=xs.map (entryOfKey (tupleKind (Zml P w)))/\(xs.map (·.1)).Nodup
 |.set S n=>h.SetOf (intKind P w) a S n
 |.ins C dx fs=>H dx=some (.own a)/\fs.length<=1000/\dx≠a/\h.get? a=some (PySem.W.instObj C dx) /\
   ∃mA,h.Ns1 dx mA/\(∀f,RelO (fs.lookup f) (mA f))/\PySem.Within mA (fs.map (·.1))
 |.own _=>∃o,h.get? a=some o
 |.xd fs=>∃mA,h.Ns1 a mA/\∀f,RelO (fs.lookup f) (mA f)
 |.rng lo hi=>∃t u v,h.get? a=some {cls:=.type "range",data:=.fields #[.int lo t,.int hi u,.int 1 v]}
 |.frz o u=>h.get? a=some o/\Zaf H h a u
 |.tbl ps=>∃ts:Array Value,h.get? a=some {cls:=.none,data:=.fields ts}/\TriplesOk ts.toList/\∀pos cv,codeAmong pos ts.toList=some cv->∃c oc vs q t t',cv=.ref c/\H c=some (.frz oc (.own a))/\oc.data=.fields vs/\ps[0]?=some (.str q t)/\vs[1]?=some (.str q t')
 |.met f x=>h.get? a=some (PySem.W.methodObj (.ref f) (.ref x))
 |.ext φ=>φ h/\(∃o,h.get? a=some o)/\∀h1 h2:Heap,φ h1->(∀o,h1.get? a=some o->h2.get? a=some o)->φ h2
noncomputable def HOk (H:Hp) (h:Heap):Prop:=∀a o,H a=some o->Zaf P w H h a o
end
section
variable {P:Program}{w:World}{H H':Hp}{h h':Heap}{a:Addr}{o:HO}
theorem Zaf.lt (x:Zaf P w H h a o):a<h.objs.size:=by
 cases o with
 |lst xs=>obtain⟨_,_,_,_,e⟩:=x;exact Yj e
 |tup xs=>obtain⟨_,_,_,p⟩:=x;exact p.lt
 |dK kvs=>obtain⟨_,_,_,_,o,_,_,e,_⟩:=x;exact Yj e
 |dT kvs=>obtain⟨_,_,_,_,o,_,_,e,_⟩:=x;exact Yj e
 |set S n=>obtain⟨o,_,_,_,e,_⟩:=x;exact Yj e
 |ins C dx fs=>obtain⟨_,_,_,e,_⟩:=x;exact Yj e
 |own y=>obtain⟨_,e⟩:=x;exact Yj e
 |xd fs=>obtain⟨_,⟨_,_,_,e,_⟩,_⟩:=x;exact Yj e
 |rng lo hi=>obtain⟨_,_,_,e⟩:=x;exact Yj e
 |frz ob u=>obtain⟨e,_⟩:=x;exact Yj e
 |tbl ps=>obtain⟨_,e,_⟩:=x;exact Yj e
 |met f y=>exact Yj (show h.get? a=some _ from x)
 |ext φ=>obtain⟨_,⟨_,e⟩,_⟩:=x;exact Yj e
theorem Paired.mapP {α β:Type}{F G:α->β->Prop}:∀{l₁:List α}{l₂:List β},Paired F l₁ l₂->(∀a b,F a b->G a b)->Paired G l₁ l₂
 |_,_,.nil,_=>.nil
 |_,_,.cons r t,f=>.cons (f _ _ r) (Paired.mapP t f)
theorem Zaf.ZfQ (x:Zaf P w H h a o) (k:∀b u,(b=a\/H b=some (.own a))->h.get? b=some u->h'.get? b=some u)
  (ho:∀b,H b=some (.own a)->H' b=some (.own a)) (ht:∀b xs,H b=some (.tup xs)->H' b=some (.tup xs)) (hz:∀b o u,H b=some (.frz o u)->H' b=some (.frz o u)):Zaf P w H' h' a o:=by
 induction o with
 |lst xs=>obtain⟨z,its,n,r,e⟩:=x;exact⟨z,its,n,r,k _ _ (.inl rfl) e⟩
 |tup xs=>obtain⟨z,its,r,ob,e,c⟩:=x;exact⟨z,its,r,ob,k _ _ (.inl rfl) e,c⟩
 |dK kvs=>obtain⟨z,y,vs,r,ob,es,ep,e,c⟩:=x;exact⟨z,y,vs,r,ob,es,ep,k _ _ (.inl rfl) e,c⟩
 |dT kvs =>
  obtain⟨z,y,xs,r,ob,es,ep,e,c⟩:=x
  exact⟨z,y,xs,Paired.mapP r λp q z=>⟨z.1,ht _ _ z.2.1,z.2.2⟩,ob,es,ep,k _ _ (.inl rfl) e,c⟩
 |set S n=>obtain⟨ob,es,ep,t,e,c⟩:=x;exact⟨ob,es,ep,t,k _ _ (.inl rfl) e,c⟩
 |ins C dx fs =>
  obtain⟨d,z,ne,e,mA,⟨od,es,ep,e2,c⟩,r⟩:=x
  exact⟨ho _ d,z,ne,k _ _ (.inl rfl) e,mA,⟨od,es,ep,k _ _ (.inr d) e2,c⟩,r⟩
 |own y=>obtain⟨ob,e⟩:=x;exact⟨ob,k _ _ (.inl rfl) e⟩
 |xd fs=>obtain⟨mA,⟨od,es,ep,e,c⟩,r⟩:=x;exact⟨mA,⟨od,es,ep,k _ _ (.inl rfl) e,c⟩,r⟩
 |rng lo hi=>obtain⟨t,u,v,e⟩:=x;exact⟨t,u,v,k _ _ (.inl rfl) e⟩
 |frz ob u ih=>obtain⟨e,q⟩:=x;exact⟨k _ _ (.inl rfl) e,ih q⟩
 |tbl ps =>
  obtain⟨ts,e,t3,z⟩:=x
  refine⟨ts,k a _ (.inl rfl) e,t3,λpos cv hc=>?_⟩
  obtain⟨c,oc,vs,q,t,t',e1,e2,r⟩:=z pos cv hc
  exact⟨c,oc,vs,q,t,t',e1,hz _ _ _ e2,r⟩
 |met f y =>
  have e:h.get? a=some (PySem.W.methodObj (.ref f) (.ref y)):=x
  show h'.get? a=some (PySem.W.methodObj (.ref f) (.ref y))
  exact k a _ (.inl rfl) e
 |ext φ=>obtain⟨p,⟨o,e⟩,st⟩:=x;exact⟨st _ _ p λo q=>k _ _ (.inl rfl) q,⟨o,k _ _ (.inl rfl) e⟩,st⟩
theorem HOk.lt (x:HOk P w H h) (e:H a=some o):a<h.objs.size:=(x a o e).lt
theorem HOk.fresh (x:HOk P w H h) (e:h.objs.size<=a):H a=none:=by
 cases q:H a with
 |none=>rfl
 |some u=>exact absurd (Ys (x.lt q) e) (YA _)
theorem HOk.kept (x:HOk P w H h) (k:∀b u,h.get? b=some u->h'.get? b=some u):HOk P w H h':=λa o e =>
 (x a o e).ZfQ (λb u _ q=>k b u q) (λ_ q=>q) (λ_ _ q=>q) λ_ _ _ q=>q
theorem HOk.laid (x:HOk P w H h) (k:∀b u,h.get? b=some u->h'.get? b=some u) (hp:h.objs.size<=a) (new:Zaf P w (upd H a o) h' a o):HOk P w (upd H a o) h':=λb u e=>by
 have hn:=x.fresh hp
 by_cases hb:b=a
 ·subst hb;rw[Zc]at e;cases e;exact new
 ·rw[Zj hb]at e
  exact(x b u e).ZfQ (λc v _ q=>k c v q) (λc q=>by rw[Zj (Zv q hn)];exact q) (λc xs q=>by rw[Zj (Zv q hn)];exact q) λc o u q=>by rw[Zj (Zv q hn)];exact q
end
noncomputable def Rd (H:Hp) (a:Addr) (u:HO):Prop:=H a=some u\/∃o,H a=some (.frz o u)
theorem Rd.ok {P:Program}{w:World}{H:Hp}{h:Heap}{a:Addr}{u:HO} (r:Rd H a u) (x:HOk P w H h):Zaf P w H h a u:=by
 rcases r with r|⟨o,r⟩
 ·exact x a u r
 ·obtain⟨_,q⟩:=x a _ r
  exact q
noncomputable def Mut:Option HO->Prop
 |some (.lst _)=>True
 |some (.dK _)=>True
 |some (.dT _)=>True
 |some (.set _ _)=>True
 |some (.ins _ _ _)=>True
 |some (.ext _)=>True
 |_=>False
section
variable {P:Program}{w:World}{H:Hp}{h h':Heap}{x e:Addr}{o':HO}
theorem HOk.write (ok:HOk P w H h) (mu:Mut (H x)) (he:e=x\/H e=some (.own x)) (k:∀b u,b≠e->h.get? b=some u->h'.get? b=some u) (heo:∃u,h'.get? e=some u)
  (new:Zaf P w (upd H x o') h' x o'):HOk P w (upd H x o') h':=λb u q=>by
 have nown:∀c y,H c=some (.own y)->c≠x:=λc y r z=>by subst z;rw[r]at mu;exact mu
 have ntup:∀c xs,H c=some (.tup xs)->c≠x:=λc xs r z=>by subst z;rw[r]at mu;exact mu
 have nfrz:∀c o u,H c=some (.frz o u)->c≠x:=λc o u r z=>by subst z;rw[r]at mu;exact mu
 by_cases hb:b=x
 ·subst hb;rw[Zc]at q;cases q;exact new
 ·rw[Zj hb]at q
  by_cases hbe:b=e
  ·have q':H b=some (.own x):=by
    rcases he with z|z
    ·exact absurd (hbe.trans z) hb
    ·rw[hbe];exact z
   rw[q]at q';cases q'
   obtain⟨v,hv⟩:=heo
   exact⟨v,by rw[hbe];exact hv⟩
  ·refine(ok b u q).ZfQ (λc v hc r=>k c v ?_ r) (λc r=>by rw[Zj (nown c b r)];exact r) (λc xs r=>by rw[Zj (ntup c xs r)];exact r) λc o u r=>by rw[Zj (nfrz c o u r)];exact r
   rcases hc with rfl|hc
   ·exact hbe
   ·rintro rfl
    rcases he with z|z
    ·exact nown c b hc z
    ·rw[hc]at z;cases z;exact hb rfl
end
structure Un (fs ex:List Addr) (H H':Hp) (h h':Heap):Prop where
 keep:∀b o,h.get? b=some o->H b=none->b∉fs->b∉ex->h'.get? b=some o
 slot:∀b o,h.get? b=some o->H b=none->b∈fs->b∉ex->∃sl,h'.get? b=some {o with slots:=sl}
 free:∀b o,h.get? b=some o->H b=none->b∉ex->H' b=none
 there:∀b o,h.get? b=some o->b∉ex->∃o',h'.get? b=some o'
 tups:∀b xs,H b=some (.tup xs)->H' b=some (.tup xs)
 frzs:∀b o u,H b=some (.frz o u)->H' b=some (.frz o u)
 tbls:∀b ps,H b=some (.tbl ps)->∃more,H' b=some (.tbl (ps++more))
section
variable {fs fs' ex ex':List Addr}{H H1 H2:Hp}{h h1 h2 h':Heap}{a x e:Addr}{o:HO}
theorem Un.any (u:Un fs ex H H1 h h1) {b:Addr}{ob:Obj} (q:h.get? b=some ob) (n:H b=none) (hx:b∉ex):∃sl,h1.get? b=some {ob with slots:=sl}:=by
 by_cases hb:b∈fs
 ·exact u.slot b ob q n hb hx
 ·exact⟨ob.slots,u.keep b ob q n hb hx⟩
theorem Un.kept (k:∀b u,h.get? b=some u->h'.get? b=some u):Un fs ex H H h h' :=
 ⟨λb ob q _ _ _=>k b ob q,λb ob q _ _ _=>⟨ob.slots,k b ob q⟩,λ_ _ _ n _=>n,λb ob q _=>⟨ob,k b ob q⟩,λ_ _ q=>q,λ_ _ _ q=>q,λ_ ps q=>⟨#[],by rw[q];simp⟩⟩
theorem Un.refl:Un fs ex H H h h:=Un.kept λ_ _ q=>q
theorem Un.laid (k:∀b u,h.get? b=some u->h'.get? b=some u) (hp:h.objs.size<=a) (hn:H a=none):Un fs ex H (upd H a o) h h' where
 keep:=λb u q _ _ _=>k b u q
 slot:=λb u q _ _ _=>⟨u.slots,k b u q⟩
 free:=λb u q n _=>by rw[Zj (Yo (Ys (Yj q) hp))];exact n
 there:=λb u q _=>⟨u,k b u q⟩
 tups:=λb xs q=>by rw[Zj (Zv q hn)];exact q
 frzs:=λb u xs q=>by rw[Zj (Zv q hn)];exact q
 tbls:=λb ps q=>⟨#[],by rw[Zj (Zv q hn),q];simp⟩
theorem Un.write (mu:Mut (H x)) (he:e=x\/H e=some (.own x)) (k:∀b u,b≠e->h.get? b=some u->h'.get? b=some u) (heo:∃u,h'.get? e=some u):Un fs ex H (upd H x o) h h':=by
 have hx:∀b,H b=none->b≠x:=λb n z=>by subst z;rw[n]at mu;exact mu
 have hb:∀b,H b=none->b≠e:=λb n z=>by
  subst z
  rcases he with r|r
  ·exact hx b n r
  ·rw[n]at r;cases r
 have hm:∀b u,H b=some u->¬ Mut (some u)->b≠x:=λb u q nm z=>by subst z;rw[q]at mu;exact nm mu
 refine⟨λb u q n _ _=>k b u (hb b n) q,λb u q n _ _=>⟨u.slots,k b u (hb b n) q⟩,λb u q n _=>by rw[Zj (hx b n)];exact n,λb u q _=>?_,
  λb xs q=>by rw[Zj (hm b _ q λz=>z)];exact q,λb u xs q=>by rw[Zj (hm b _ q λz=>z)];exact q,λb ps q=>⟨#[],by rw[Zj (hm b _ q λz=>z),q];simp⟩⟩
 by_cases hbe:b=e
 ·subst hbe;exact heo
 ·exact⟨u,k b u hbe q⟩
end
noncomputable def trk (h:Heap) (H:Hp):List Addr:=(List.range h.objs.size).filter λa=>(H a).isSome
noncomputable def Zix (h:Heap) (H:Hp):Heap:=PySem.W.hideAll h (trk h H)
theorem ZmZ (h:Heap) (H:Hp):(Zix h H).objs.size=h.objs.size:=PySem.W.hideAll_size _ _
theorem ZoD {h:Heap}{H:Hp}{b:Addr}{o:Obj} (e:h.get? b=some o) (n:H b=none):(Zix h H).get? b=some o :=
 PySem.W.hideAll_get _ e λhm=>by
  have q:(H b).isSome=true:=(YU.mp hm).2
  rw[n]at q;simp at q
theorem Zri {h:Heap}{H:Hp}{b:Addr}{o:Obj} (e:(Zix h H).get? b=some o):h.get? b=some o/\H b=none:=by
 have e':h.get? b=some o:=PySem.W.of_hideAll (trk h H) e
 refine⟨e',?_⟩
 cases q:H b with
 |none=>rfl
 |some x =>
  have hm:b∈trk h H:=YU.mpr ⟨YF.mpr (Yj e'),by simp[q]⟩
  have z:(Zix h H).get? b=none:=PySem.W.hideAll_none (trk h H) hm
  rw[z]at e;cases e
noncomputable def Zrj (g h:Heap) (L:Addr):List (Addr×Obj):=(List.range h.objs.size).filterMap λa=>if a=L\/(g.get? a).isSome=true then none else (h.get? a).map λo=>(a,o)
noncomputable def rest (g h:Heap) (L d:Addr):List (Addr×Obj):=(Zrj g h L).filter λp=>decide (p.1≠d)
structure Mod (K:PySem.W.Frag) (mg:Str->Option Value) (base:Heap):Prop where
 kin:K.In base
 glob:base.Ns mainGlobals mg
 blt:∃mb,base.Ns builtinsNs mb/\∀x:Str,x≠"__name__"->mb x=bootBuiltins x
 nolimit:base.NoLimit
structure Cx where
 prog:Program
 w:World
 K:PySem.W.Frag
 mg:Str->Option Value
 base:Heap
 A:Around
 N:List Str
 s₀:Shared
 H₀:Hp
 env:Env
 outer:List Env
 stack:List Env
 ex:List Addr
 fn:Str->Bool
 calm:Bool
 pn:List (Addr×Obj)
 xe:Value->Shared->Prop
noncomputable def frs (l:List Env):List Addr:=l.filterMap (·.frame)
noncomputable abbrev Cx.fs (X:Cx):List Addr:=frs X.outer
noncomputable def Vis (sc:Scope) (x:Str):Prop:=sc.names.lookup x=some .local\/sc.names.lookup x=some .cell\/sc.names.lookup x=some .free
noncomputable def Loc (sc:Scope) (x:Str):Prop:=sc.names.lookup x=some .local\/sc.names.lookup x=some .cell
noncomputable def Look (env:Env) (h:Heap) (m:Str->Option Value) (x:Str) (u:Value):Prop :=
 (env.kindOf x=some .local/\m x=some u)\/((env.kindOf x=some .cell\/env.kindOf x=some .free)/\∃c,env.cells.lookup x=some c/\h.IsCell c (some u))
structure Cx.Ok (X:Cx):Prop where
 mod:Mod X.K X.mg X.base
 kind:X.env.scope.kind=.function
 glob:X.env.globals=mainGlobals
 blt:X.env.builtins=builtinsNs
 above:X.s₀.heap.objs.size<=X.env.locals
 inj:∀x y c,X.env.cells.lookup x=some c->X.env.cells.lookup y=some c->x=y
 has:∀x,(X.env.kindOf x=some .cell\/X.env.kindOf x=some .free)->∃c,X.env.cells.lookup x=some c
 cab:∀x c,X.fn x=true->X.env.cells.lookup x=some c->X.s₀.heap.objs.size<=c
 hd:X.calm=true->X.A.handled=none
 frames:X.A.frames=some X.stack
 stk:X.stack=X.outer\/(X.stack=X.env::X.outer/\X.env.frame=some X.env.locals)
 exf:∀b∈X.ex,b≠X.env.locals/\∀x c,X.env.cells.lookup x=some c->c≠b
 bs:∀b o,X.base.get? b=some o->X.s₀.heap.get? b=some o/\X.H₀ b=none
 bsz:X.base.objs.size<=X.s₀.heap.objs.size
 noex:∀b o,X.base.get? b=some o->b∉X.ex
 exfs:∀b∈X.ex,b∉X.fs
 funs:X.s₀.heap.FunFrames X.base X.outer
 frf:∀b∈X.fs,X.H₀ b=none
structure Inv (X:Cx) (pins:List (Addr×Obj)) (σ:List (Option V)) (H:Hp) (s:Shared):Prop where
 ok:X.Ok
 os:s.os=X.s₀.os
 bare:AllBare s.gens
 base:Un X.fs X.ex X.H₀ H X.s₀.heap s.heap
 loc:∃m,s.heap.Ns X.env.locals m/\∀(i:Nat) (x:Str) (v:V),X.N[i]?=some x->σ[i]?=some (some v)->Vis X.env.scope x->∃u,RelV v u/\Look X.env s.heap m x u
 cell:∀x c,X.env.cells.lookup x=some c->∃v,s.heap.IsCell c v
 free:H X.env.locals=none
 freeC:∀x c,X.env.cells.lookup x=some c->H c=none
 pin:∀p∈X.pn++pins,s.heap.get? p.1=some p.2/\H p.1=none/\p.1≠X.env.locals/\p.1∉X.fs/\∀v,p.2.data≠.cell v
 hok:HOk X.prog X.w H s.heap
 len:σ.length=X.N.length
section
variable {X:Cx}{pins:List (Addr×Obj)}{σ:List (Option V)}{H H':Hp}{s:Shared}{h':Heap}
theorem Cx.Ok.nofr (ok:X.Ok) {b:Addr}{o:Obj} (e:X.base.get? b=some o):b∉X.fs:=λhb=>by
 have:=(ok.funs.mem hb).1
 rw[e]at this;cases this
theorem Inv.bs (I:Inv X pins σ H s):∀b o,X.base.get? b=some o->s.heap.get? b=some o/\H b=none:=λb o e =>
 ⟨I.base.keep b o (I.ok.bs b o e).1 (I.ok.bs b o e).2 (I.ok.nofr e) (I.ok.noex b o e),I.base.free b o (I.ok.bs b o e).1 (I.ok.bs b o e).2 (I.ok.noex b o e)⟩
theorem Inv.bk (I:Inv X pins σ H s):∀b o,X.base.get? b=some o->s.heap.get? b=some o:=λb o e=>(I.bs b o e).1
theorem Inv.mod (I:Inv X pins σ H s):Mod X.K X.mg X.base:=I.ok.mod
theorem Inv.kIn (I:Inv X pins σ H s):X.K.In s.heap:=I.ok.mod.kin.keeps I.bk
theorem Inv.nolimit (I:Inv X pins σ H s):s.heap.NoLimit:=I.ok.mod.nolimit.keeps I.bk
theorem Inv.lt (I:Inv X pins σ H s):X.env.locals<s.heap.objs.size:=let ⟨_,hn,_⟩:=I.loc;hn.lt
theorem Inv.sz (I:Inv X pins σ H s):X.s₀.heap.objs.size<=s.heap.objs.size:=Yn I.ok.above (YW I.lt)
theorem Inv.Zlq (I:Inv X pins σ H s) {a:Addr} (h:s.heap.objs.size<=a):a∉X.fs:=λhb=>by
 obtain⟨_,o,ho,_⟩:=I.ok.funs.mem hb
 exact absurd (Ys (Yj ho) (Yn I.sz h)) (YA _)
theorem Inv.cne (I:Inv X pins σ H s):∀x c,X.env.cells.lookup x=some c->c≠X.env.locals:=λx c e z=>by
 obtain⟨v,o,ho,hd⟩:=I.cell x c e
 obtain⟨m,⟨o',es,ep,ho',hd',_⟩,_⟩:=I.loc
 rw[z,ho']at ho;cases ho;rw[hd']at hd;cases hd
theorem Inv.funs (I:Inv X pins σ H s):s.heap.FunFrames X.base X.outer:=by
 have all:∀(l:List Env),(∀b∈frs l,b∈X.fs)->X.s₀.heap.FunFrames X.base l->s.heap.FunFrames X.base l:=by
  intro l
  induction l with
  |nil=>intro _ _;trivial
  |cons env r ih =>
   intro hs hl
   obtain⟨hk,⟨L,o,hf,hn,ho,hd⟩,hr⟩:=hl
   have hL:L∈X.fs:=hs L (by unfold frs;rw[List.filterMap_cons,hf];exact Yx)
   obtain⟨sl,e⟩:=I.base.slot L o ho (I.ok.frf L hL) hL λz=>I.ok.exfs L z hL
   exact⟨hk,⟨L,_,hf,hn,e,hd⟩,ih (λb hb=>hs b (by unfold frs;rw[List.filterMap_cons,hf];exact Yz _ hb)) hr⟩
 exact all X.outer (λ_ hb=>hb) I.ok.funs
theorem Inv.stack (I:Inv X pins σ H s):s.heap.FunFrames X.base X.stack:=by
 rcases I.ok.stk with e|⟨e,hf⟩
 ·rw[e];exact I.funs
 ·rw[e]
  obtain⟨m,hn,_⟩:=I.loc
  refine .cons (by rw[I.ok.kind];decide) hf hn ?_ I.funs
  exact Heap.get?_none_of_le (Yn I.ok.bsz I.ok.above)
theorem Inv.Zef (I:Inv X pins σ H s):∀b∈frs X.stack,b∈X.env.locals::X.fs:=λb hb=>by
 rcases I.ok.stk with e|⟨e,hf⟩
 ·rw[e]at hb;exact Yz _ hb
 ·rw[e]at hb
  unfold frs at hb
  rw[List.filterMap_cons,hf]at hb
  exact hb
theorem Inv.ZfR (I:Inv X pins σ H s):∀b∈frs X.stack,H b=none:=λb hb=>by
 rcases Ym.mp (I.Zef b hb)with e|hb
 ·rw[e];exact I.free
 ·obtain⟨_,o,ho,_⟩:=I.ok.funs.mem hb
  exact I.base.free b o ho (I.ok.frf b hb) λz=>I.ok.exfs b z hb
theorem Inv.step {g':Array GenState}{t':Nat}{d':Drawn}{ch:List Addr} (I:Inv X pins σ H s)
  (hch:∀b∈ch,(b∈X.ex\/X.s₀.heap.objs.size<=b)/\b≠X.env.locals/\(∀x c,X.env.cells.lookup x=some c->c≠b)/\∀p∈X.pn++pins,p.1≠b)
  (keep:∀b o,b≠X.env.locals->b∉X.fs->b∉ch->s.heap.get? b=some o->H b=none->h'.get? b=some o)
  (slot:∀b o,b≠X.env.locals->b∈X.fs->b∉ch->s.heap.get? b=some o->H b=none->∃sl,h'.get? b=some {o with slots:=sl}) (free:∀b o,b∉ch->s.heap.get? b=some o->H b=none->H' b=none)
  (there:∀b o,b∉ch->s.heap.get? b=some o->∃o',h'.get? b=some o')
  (tups:∀b xs,H b=some (.tup xs)->H' b=some (.tup xs)) (frzs:∀b o u,H b=some (.frz o u)->H' b=some (.frz o u)) (tbls:∀b ps,H b=some (.tbl ps)->∃more,H' b=some (.tbl (ps++more)))
  (ns:∀m,s.heap.Ns X.env.locals m->h'.Ns X.env.locals m) (hok:HOk X.prog X.w H' h') (hg:AllBare g') :
  Inv X pins σ H' {s with heap:=h',gens:=g',drawn:=d',toks:=t'}:=by
 have neL:∀b o,X.s₀.heap.get? b=some o->b≠X.env.locals:=λb o e=>Yo (Ys (Yj e) I.ok.above)
 have neC:∀b o,X.s₀.heap.get? b=some o->b∉X.ex->b∉ch:=λb o e hx hb=>by
  rcases(hch b hb).1 with z|z
  ·exact hx z
  ·exact absurd (Ys (Yj e) z) (YA _)
 have cellK:∀x c,X.env.cells.lookup x=some c->∀v,s.heap.IsCell c v->h'.IsCell c v:=λx c e v ⟨o,ho,hd⟩=>by
  have nch:c∉ch:=λz=>(hch c z).2.2.1 x c e rfl
  by_cases hc:c∈X.fs
  ·obtain⟨sl,q⟩:=slot c o (I.cne x c e) hc nch ho (I.freeC x c e)
   exact⟨_,q,hd⟩
  ·exact⟨o,keep c o (I.cne x c e) hc nch ho (I.freeC x c e),hd⟩
 refine⟨I.ok,I.os,hg,⟨λb o e n hb hx=>?_,λb o e n hb hx=>?_,λb o e n hx=>?_,λb o e hx=>?_,λb xs e=>tups b xs (I.base.tups b xs e),λb o xs e=>frzs b o xs (I.base.frzs b o xs e),λb ps e=>?_⟩,?_,λx c e=>?_,?_,λx c e=>?_,λp hp=>?_,hok,I.len⟩
 ·exact keep b o (neL b o e) hb (neC b o e hx) (I.base.keep b o e n hb hx) (I.base.free b o e n hx)
 ·obtain⟨sl,e1⟩:=I.base.slot b o e n hb hx
  obtain⟨sl',e2⟩:=slot b _ (neL b o e) hb (neC b o e hx) e1 (I.base.free b o e n hx)
  exact⟨sl',e2⟩
 ·obtain⟨o',e1⟩:=I.base.there b o e hx
  exact free b o' (neC b o e hx) e1 (I.base.free b o e n hx)
 ·obtain⟨o',e1⟩:=I.base.there b o e hx
  exact there b o' (neC b o e hx) e1
 ·obtain⟨m1,e1⟩:=I.base.tbls b ps e
  obtain⟨m2,e2⟩:=tbls b _ e1
  exact⟨m1++m2,by rw[e2,Array.append_assoc]⟩
 ·obtain⟨m,hn,hl⟩:=I.loc
  refine⟨m,ns m hn,λi x v e1 e2 e3=>?_⟩
  obtain⟨u,r,l⟩:=hl i x v e1 e2 e3
  refine⟨u,r,?_⟩
  rcases l with l|⟨k,c,e,z⟩
  ·exact .inl l
  ·exact .inr ⟨k,c,e,cellK x c e _ z⟩
 ·obtain⟨v,z⟩:=I.cell x c e
  exact⟨v,cellK x c e v z⟩
 ·obtain⟨m,⟨o,_,_,ho,_⟩,_⟩:=I.loc
  exact free _ o (λz=>(hch _ z).2.1 rfl) ho I.free
 ·obtain⟨v,o,ho,hd⟩:=I.cell x c e
  exact free c o (λz=>(hch c z).2.2.1 x c e rfl) ho (I.freeC x c e)
 ·obtain⟨e,n,ne,nf,d⟩:=I.pin p hp
  have nch:p.1∉ch:=λz=>(hch p.1 z).2.2.2 p hp rfl
  exact⟨keep p.1 p.2 ne nf nch e n,free p.1 p.2 nch e n,ne,nf,d⟩
theorem Inv.un {t':Nat} (I:Inv X pins σ H s) (u:Un X.fs [] H H' s.heap h') (hok:HOk X.prog X.w H' h'):Inv X pins σ H' {s with heap:=h',toks:=t'}:=by
 obtain⟨m,⟨o,es,ep,ho,r⟩,_⟩:=id I.loc
 obtain⟨sl,hL⟩:=u.any ho I.free (by simp)
 exact I.step (g':=s.gens) (d':=s.drawn) (ch:=[]) (λ_ z=>nomatch z) (λb o _ hb _ e n=>u.keep b o e n hb (by simp)) (λb o _ hb _ e n=>u.slot b o e n hb (by simp)) (λb o _ e n=>u.free b o e n (by simp)) (λb o _ e=>u.there b o e (by simp)) u.tups u.frzs u.tbls (λm' hm=>by
  obtain⟨o',es',ep',ho',r'⟩:=hm
  rw[ho]at ho';cases ho'
  exact⟨_,es',ep',hL,r'⟩) hok I.bare
theorem Inv.call {g':Array GenState}{t':Nat}{d':Drawn}{ch:List Addr} (I:Inv X pins σ H s) (u:Un (frs X.stack) ch H H' s.heap h') (hok:HOk X.prog X.w H' h') (hg:AllBare g')
  (hch:∀b∈ch,(b∈X.ex\/X.s₀.heap.objs.size<=b)/\b≠X.env.locals/\(∀x c,X.env.cells.lookup x=some c->c≠b)/\∀p∈X.pn++pins,p.1≠b) :
  Inv X pins σ H' {s with heap:=h',gens:=g',drawn:=d',toks:=t'}:=by
 obtain⟨m,⟨o,es,ep,ho,r⟩,_⟩:=id I.loc
 obtain⟨sl,hL⟩:=u.any ho I.free λz=>(hch _ z).2.1 rfl
 exact I.step (ch:=ch) hch (λb o hL hb hc e n=>u.keep b o e n (λz=>(Ym.mp (I.Zef b z)).elim hL hb) hc) (λb o _ _ hc e n=>u.any e n hc) (λb o hc e n=>u.free b o e n hc) (λb o hc e=>u.there b o e hc) u.tups u.frzs u.tbls (λm' hm=>by
  obtain⟨o',es',ep',ho',r'⟩:=hm
  rw[ho]at ho';cases ho'
  exact⟨_,es',ep',hL,r'⟩) hok hg
theorem Inv.turned {t':Nat}{it:Addr} (I:Inv X pins σ H s) (k:∀b o,b≠it->s.heap.get? b=some o->h'.get? b=some o) (hn:H it=none) (hL:it≠X.env.locals)
  (h1:it∈X.ex\/X.s₀.heap.objs.size<=it) (h2:∀x c,X.env.cells.lookup x=some c->c≠it) (h3:∀p∈X.pn++pins,p.1≠it):Inv X pins σ H {s with heap:=h',toks:=t'}:=by
 have nit:∀b u,H b=some u->b≠it:=λb u e z=>by rw[z,hn]at e;cases e
 refine I.step (g':=s.gens) (d':=s.drawn) (ch:=[it]) (λb hb=>?_) (λb o _ _ hc e _=>k b o (λz=>hc (by simp[z])) e) (λb o _ _ hc e _=>⟨o.slots,k b o (λz=>hc (by simp[z])) e⟩) (λ_ _ _ _ n=>n)
  (λb o hc e=>⟨o,k b o (λz=>hc (by simp[z])) e⟩) (λ_ _ e=>e) (λ_ _ _ e=>e) (λb ps e=>⟨#[],by rw[e];simp⟩) (λm hm=>?_) (λb u e=>?_) I.bare
 ·have e:b=it:=by simpa using hb
  subst e
  exact⟨h1,hL,h2,h3⟩
 ·obtain⟨o,es,ep,ho,r⟩:=hm
  exact⟨o,es,ep,k _ o (Ne.symm hL) ho,r⟩
 ·refine(I.hok b u e).ZfQ (λc v hc q=>k c v ?_ q) (λ_ q=>q) (λ_ _ q=>q) λ_ _ _ q=>q
  rcases hc with z|z
  ·rw[z];exact nit b u e
  ·exact nit c _ z
theorem Inv.tok (I:Inv X pins σ H s) (t:Nat):Inv X pins σ H {s with toks:=t}:=I.un (h':=s.heap) (t':=t) Un.refl I.hok
theorem Inv.kept {t':Nat} (I:Inv X pins σ H s) (k:∀b u,s.heap.get? b=some u->h'.get? b=some u):Inv X pins σ H {s with heap:=h',toks:=t'}:=I.un (Un.kept k) (I.hok.kept k)
theorem Inv.laid {a:Addr}{o:HO}{t':Nat} (I:Inv X pins σ H s) (k:∀b u,s.heap.get? b=some u->h'.get? b=some u) (hp:s.heap.objs.size<=a) (new:Zaf X.prog X.w (upd H a o) h' a o) :
  Inv X pins σ (upd H a o) {s with heap:=h',toks:=t'}:=I.un (Un.laid k hp (I.hok.fresh hp)) (I.hok.laid k hp new)
theorem Inv.write {x e:Addr}{o:HO}{t':Nat} (I:Inv X pins σ H s) (mu:Mut (H x)) (he:e=x\/H e=some (.own x)) (k:∀b u,b≠e->s.heap.get? b=some u->h'.get? b=some u) (heo:∃u,h'.get? e=some u)
  (new:Zaf X.prog X.w (upd H x o) h' x o):Inv X pins σ (upd H x o) {s with heap:=h',toks:=t'}:=I.un (Un.write mu he k heo) (I.hok.write mu he k heo new)
theorem Inv.weak {σ':List (Option V)} (I:Inv X pins σ H s) (hl:σ'.length=σ.length) (w:∀(i:Nat) v,σ'[i]?=some (some v)->σ[i]?=some (some v)):Inv X pins σ' H s :=
 ⟨I.ok,I.os,I.bare,I.base,let ⟨m,hn,hl'⟩:=I.loc;⟨m,hn,λi x v e1 e2 e3=>hl' i x v e1 (w i v e2) e3⟩,I.cell,I.free,I.freeC,I.pin,I.hok,hl.trans I.len⟩
theorem Inv.ZU {pins':List (Addr×Obj)} (I:Inv X pins σ H s) (h:∀p∈pins',s.heap.get? p.1=some p.2/\H p.1=none/\p.1≠X.env.locals/\p.1∉X.fs/\∀v,p.2.data≠.cell v):Inv X pins' σ H s :=
 ⟨I.ok,I.os,I.bare,I.base,I.loc,I.cell,I.free,I.freeC,λp hp=>(Yy.mp hp).elim (λz=>I.pin p (YG _ z)) (h p),I.hok,I.len⟩
theorem Zhv {N:List Str} (hN:N.Nodup) {i j:Nat}{x:Str} (a:N[i]?=some x) (b:N[j]?=some x):i=j:=by
 obtain⟨h1,e1⟩:=Yw.mp a
 obtain⟨h2,e2⟩:=Yw.mp b
 exact(List.getElem_inj hN).mp (e1.trans e2.symm)
theorem Zm0 {M:Model}{A:Around}{E:Value->Shared->Prop}{i:Nat}{x:Str}{v:V}{u:Value}{Q:Unit->Shared->Prop} (I:Inv X pins σ H s) (hN:X.N.Nodup) (hi:X.N[i]?=some x) (hx:Loc X.env.scope x) (r:RelV v u)
  (h:∀s',Inv X pins (σ.set i (some v)) H s'->(∃a,Heap.SameBut a s.heap s'.heap/\(a=X.env.locals\/X.env.cells.lookup x=some a))->Q () s') (hf:X.fn x=true\/X.env.scope.names.lookup x=some .local:=by first|exact .inl rfl|exact .inr rfl|assumption):wpAny M A (storeName X.env x u) Q E s:=by
 obtain⟨m,hn,hl⟩:=id I.loc
 have hcls:(X.env.scope.kind==.class||(X.env.scope.kind==.module&&X.env.locals != X.env.globals))=false:=by rw[I.ok.kind];rfl
 have hiσ:i < σ.length:=by rw[I.len];exact(Yw.mp hi).1
 have cne:=I.cne
 have tracked:∀{a:Addr}{h':Heap},(∃o,s.heap.get? a=some o/\H a=none)->Heap.SameBut a s.heap h'->HOk X.prog X.w H h':=λ{a h'} ha hs b ob e=>by
  obtain⟨_,_,hfree⟩:=ha
  refine(I.hok b ob e).ZfQ (λc w' hc q=>(hs.2 c ?_).trans q) (λ_ q=>q) (λ_ _ q=>q) λ_ _ _ q=>q
  rintro rfl
  rcases hc with rfl|hc
  ·rw[hfree]at e;cases e
  ·rw[hfree]at hc;cases hc
 rcases hx with hk|hk
 ·refine wpAny_storeName_local hk hn (λh' hn' hs=>?_) hcls
  obtain⟨oL,_,_,hoL,_⟩:=id hn
  refine h _ ⟨I.ok,I.os,I.bare,⟨λb o e n hb hx=>?_,λb o e n hb hx=>?_,I.base.free,λb o e hx=>?_,I.base.tups,I.base.frzs,I.base.tbls⟩,⟨_,hn',λj y v' e1 e2 e3=>?_⟩,λy c e=>?_,I.free,I.freeC,λp hp=>?_,tracked ⟨oL,hoL,I.free⟩ hs,by simpa using I.len⟩ ⟨_,hs,.inl rfl⟩
  ·exact(hs.2 b (Yo (Ys (Yj e) I.ok.above))).trans (I.base.keep b o e n hb hx)
  ·obtain⟨sl,e1⟩:=I.base.slot b o e n hb hx
   exact⟨sl,(hs.2 b (Yo (Ys (Yj e) I.ok.above))).trans e1⟩
  ·obtain⟨o',e1⟩:=I.base.there b o e hx
   exact⟨o',(hs.2 b (Yo (Ys (Yj e) I.ok.above))).trans e1⟩
  ·by_cases hj:j=i
   ·subst hj
    rw[hi]at e1;cases e1
    rw[List.getElem?_set_self hiσ]at e2
    cases e2
    exact⟨u,r,.inl ⟨hk,by simp⟩⟩
   ·rw[List.getElem?_set_ne (Ne.symm hj)]at e2
    obtain⟨u',r',q⟩:=hl j y v' e1 e2 e3
    refine⟨u',r',?_⟩
    rcases q with⟨k,e⟩|⟨k,c,e,z⟩
    ·refine .inl ⟨k,?_⟩
     have:y≠x:=λe=>hj (Zhv hN e1 (e▸hi))
     simp[this,e]
    ·exact .inr ⟨k,c,e,z.sameBut hs (cne y c e)⟩
  ·obtain⟨w',z⟩:=I.cell y c e
   exact⟨w',z.sameBut hs (cne y c e)⟩
  ·obtain⟨e,n,ne,nf,d⟩:=I.pin p hp
   exact⟨(hs.2 p.1 ne).trans e,n,ne,nf,d⟩
 ·have hfn:X.fn x=true:=by
   rcases hf with z|z
   ·exact z
   ·rw[z]at hk;cases hk
  obtain⟨c,hc⟩:=I.ok.has x (.inl hk)
  obtain⟨w',z⟩:=I.cell x c hc
  refine wpAny_storeName_cell I.ok.kind hk hc z (λh' hc' hs=>?_)
  obtain⟨oc,hoc,hocd⟩:=id z
  refine h {s with heap:=h'} ⟨I.ok,I.os,I.bare,⟨λb o e n hb hx=>?_,λb o e n hb hx=>?_,I.base.free,λb o e hx=>?_,I.base.tups,I.base.frzs,I.base.tbls⟩,⟨m,hn.sameBut hs (Ne.symm (cne x c hc)),λj y v' e1 e2 e3=>?_⟩,λy c' e=>?_,I.free,I.freeC,λp hp=>?_,tracked ⟨oc,hoc,I.freeC x c hc⟩ hs,by simpa using I.len⟩ ⟨c,hs,.inr hc⟩
  ·exact(hs.2 b (Yo (Ys (Yj e) (I.ok.cab x c hfn hc)))).trans (I.base.keep b o e n hb hx)
  ·obtain⟨sl,e1⟩:=I.base.slot b o e n hb hx
   exact⟨sl,(hs.2 b (Yo (Ys (Yj e) (I.ok.cab x c hfn hc)))).trans e1⟩
  ·obtain⟨o',e1⟩:=I.base.there b o e hx
   exact⟨o',(hs.2 b (Yo (Ys (Yj e) (I.ok.cab x c hfn hc)))).trans e1⟩
  ·by_cases hj:j=i
   ·subst hj
    rw[hi]at e1;cases e1
    rw[List.getElem?_set_self hiσ]at e2
    cases e2
    exact⟨u,r,.inr ⟨.inl hk,c,hc,hc'⟩⟩
   ·rw[List.getElem?_set_ne (Ne.symm hj)]at e2
    obtain⟨u',r',q⟩:=hl j y v' e1 e2 e3
    refine⟨u',r',?_⟩
    rcases q with q|⟨k,c',e,z'⟩
    ·exact .inl q
    ·refine .inr ⟨k,c',e,z'.sameBut hs ?_⟩
     rintro rfl
     exact hj (Zhv hN e1 (I.ok.inj _ _ _ e hc▸hi))
  ·by_cases hcc:c'=c
   ·subst hcc;exact⟨_,hc'⟩
   ·obtain⟨w2,z2⟩:=I.cell y c' e
    exact⟨w2,z2.sameBut hs hcc⟩
  ·obtain⟨e,n,ne,nf,d⟩:=I.pin p hp
   refine⟨(hs.2 p.1 ?_).trans e,n,ne,nf,d⟩
   intro q
   rw[q,hoc]at e
   have q':oc=p.2:=YD e
   exact d w' (by rw[<-q'];exact hocd)
theorem Zeg {M:Model}{A:Around}{E:Value->Shared->Prop}{i:Nat}{x:Str}{v:V}{u:Value}{Q:Unit->Shared->Prop} (I:Inv X pins σ H s) (hN:X.N.Nodup) (hi:X.N[i]?=some x) (hx:Loc X.env.scope x) (r:RelV v u)
  (h:∀s',Inv X pins (σ.set i (some v)) H s'->Q () s') (hf:X.fn x=true\/X.env.scope.names.lookup x=some .local:=by first|exact .inl rfl|exact .inr rfl|assumption):wpAny M A (storeName X.env x u) Q E s :=
 Zm0 I hN hi hx r (λs' I' _=>h s' I') hf
theorem Inv.Zmm {s':Shared}{ch:List Addr} (I:Inv X pins σ H s) (ho:s'.os=s.os) (u:Un (frs X.stack) ch H H' s.heap s'.heap) (hok:HOk X.prog X.w H' s'.heap) (hg:AllBare s'.gens)
  (hch:∀b∈ch,(b∈X.ex\/X.s₀.heap.objs.size<=b)/\b≠X.env.locals/\(∀x c,X.env.cells.lookup x=some c->c≠b)/\∀p∈X.pn++pins,p.1≠b):Inv X pins σ H' s':=by
 obtain⟨h',g',d',t',o'⟩:=s'
 have e:o'=s.os:=ho
 subst e
 exact I.call (g':=g') (t':=t') (d':=d') u hok hg hch
end
noncomputable abbrev XK:=Value->Option Addr->Hp->Prop
noncomputable abbrev St:=List (Option V)
noncomputable abbrev VK:=V->Hp->Prop
noncomputable abbrev TE:=St->Hp->VK->Prop
noncomputable abbrev TT:=St->Hp->(Bool->Hp->Prop)->Prop
noncomputable abbrev TA:=St->Hp->(List V->Hp->Prop)->Prop
structure Ends where
 nx:St->Hp->Prop
 rt:VK
 bk:St->Hp->Prop:=λ_ _=>False
 ct:St->Hp->Prop:=λ_ _=>False
noncomputable abbrev TS:=Ends->St->Hp->Prop
noncomputable def EP (X:Cx) (pins:List (Addr×Obj)) (σ:St) (Q:VK) (u:Value) (s':Shared):Prop:=∃v H',Inv X pins σ H' s'/\RelV v u/\Q v H'
noncomputable def TP (X:Cx) (pins:List (Addr×Obj)) (σ:St) (Q:Bool->Hp->Prop) (b:Bool) (s':Shared):Prop:=∃H',Inv X pins σ H' s'/\Q b H'
noncomputable def AP (X:Cx) (pins:List (Addr×Obj)) (σ:St) (Q:List V->Hp->Prop) (us:List Value) (s':Shared):Prop:=∃vs H',Inv X pins σ H' s'/\Vals vs us/\Q vs H'
noncomputable def SP (X:Cx) (pins:List (Addr×Obj)) (D:Ends) (f:Flow) (s':Shared):Prop :=
 match f with
 |.next=>∃σ' H',Inv X pins σ' H' s'/\D.nx σ' H'
 |.brk=>∃σ' H',Inv X pins σ' H' s'/\D.bk σ' H'
 |.cont=>∃σ' H',Inv X pins σ' H' s'/\D.ct σ' H'
 |.ret u=>∃v σ' H',Inv X pins σ' H' s'/\RelV v u/\D.rt v H'
noncomputable def PE (X:Cx) (e:Expr) (t:TE):Prop :=
 ∀(pins:List (Addr×Obj)) (s:Shared) (σ:St) (H:Hp) (Q:VK),Inv X pins σ H s->t σ H Q->wpAny (model X.prog X.w) X.A (eval e X.env) (EP X pins σ Q) X.xe s
noncomputable def PT (X:Cx) (e:Expr) (t:TT):Prop :=
 ∀(pins:List (Addr×Obj)) (s:Shared) (σ:St) (H:Hp) (Q:Bool->Hp->Prop),Inv X pins σ H s->t σ H Q->wpAny (model X.prog X.w) X.A (isTrue e X.env (eval e X.env)) (TP X pins σ Q) X.xe s
noncomputable def PW (X:Cx) (e:Expr) (t:TT):Prop :=
 ∀(whole:Sem Value) (pins:List (Addr×Obj)) (s:Shared) (σ:St) (H:Hp) (Q:Bool->Hp->Prop),Inv X pins σ H s->t σ H Q->wpAny (model X.prog X.w) X.A (isTrue e X.env whole) (TP X pins σ Q) X.xe s
theorem PW.pt {X:Cx}{e:Expr}{t:TT} (h:PW X e t):PT X e t:=h _
noncomputable def PA (X:Cx) (es:List Expr) (t:TA):Prop :=
 ∀(pos:Pos) (pins:List (Addr×Obj)) (s:Shared) (σ:St) (H:Hp) (Q:List V->Hp->Prop),Inv X pins σ H s->t σ H Q->wpAny (model X.prog X.w) X.A (spliced (backTo pos (starEach es X.env))) (AP X pins σ Q) X.xe s
noncomputable def PS (X:Cx) (st:Stmt) (t:TS):Prop :=
 ∀(pins:List (Addr×Obj)) (s:Shared) (σ:St) (H:Hp) (D:Ends),Inv X pins σ H s->t D σ H->wpAny (model X.prog X.w) X.A (exec st X.env) (SP X pins D) X.xe s
noncomputable def PSs (X:Cx) (st:List Stmt) (t:TS):Prop :=
 ∀(pins:List (Addr×Obj)) (s:Shared) (σ:St) (H:Hp) (D:Ends),Inv X pins σ H s->t D σ H->wpAny (model X.prog X.w) X.A (execs st X.env) (SP X pins D) X.xe s
theorem thn {α:Type}{t:Sem α}{Q Q':α->Shared->Prop}{M:Model}{A:Around}{E:Value->Shared->Prop}{s:Shared} (h:wpAny M A t Q E s) (hQ:∀a s,Q a s->Q' a s):wpAny M A t Q' E s:=Yu h hQ λ_ _ x=>x
section
variable {X:Cx}
noncomputable def Zlr (i:Nat):TE:=fun σ H Q=>∃v,σ[i]?=some (some v)/\Q v H
noncomputable def tC (v:V):TE:=λ_ H Q=>Q v H
theorem pe_var {i:Nat}{x:Str}{pos:Pos} (hN:X.N[i]?=some x) (hv:Vis X.env.scope x) (hd:(x==("__debug__":Str))=false:=by decide) (hcd:(x==("__classdict__":Str))=false:=by decide):PE X (.Name x pos) (Zlr i):=by
 intro pins s σ H Q I h
 obtain⟨v,e,h⟩:=h
 obtain⟨m,hn,hl⟩:=I.loc
 obtain⟨u,r,l⟩:=hl i x v hN e hv
 have fin:EP X pins σ Q u s:=⟨v,H,I,r,h⟩
 rcases l with⟨hk,hm⟩|⟨hk,c,hc,hcell⟩
 ·exact wpAny_Name (wpAny_loadName_local I.ok.kind hk hn hm fin) hd
 ·rcases hk with hk|hk
  ·exact wpAny_Name (wpAny_loadName_cell I.ok.kind hk hc hcell fin) hd
  ·exact wpAny_Name (wpAny_loadName_free I.ok.kind hk hc hcell fin hcd) hd
theorem Ze {i j pos}:PE X (.Constant (.int i) j pos) (tC (.int i)):=λ_ _ _ H _ I h=>wpAny_Constant_int ⟨.int i,H,I.tok _,⟨_,rfl⟩,h⟩
theorem Zeh {b j pos}:PE X (.Constant (.bool b) j pos) (tC (.bl b)):=λ_ _ _ H _ I h=>Constant_bool ⟨.bl b,H,I,rfl,h⟩
theorem Zgy {j pos}:PE X (.Constant .none j pos) (tC .non):=λ_ _ _ H _ I h=>Constant_none ⟨.non,H,I,rfl,h⟩
theorem Zhw {x j pos}:PE X (.Constant (.str x) j pos) (tC (.str x)):=λ_ _ _ H _ I h=>Calls.Constant_str ⟨.str x,H,I.tok _,⟨_,rfl⟩,h⟩
noncomputable def Gl (X:Cx) (x:Str):Prop:=X.env.kindOf x=some .globalImplicit
theorem ZfS {E:Value->Shared->Prop}{pins:List (Addr×Obj)}{s:Shared}{σ:St}{H:Hp}{x:Str}{u:Value}{pos:Pos}{Q:Value->Shared->Prop} (I:Inv X pins σ H s) (hg:Gl X x) (hm:X.mg x=some u) (h:Q u s)
  (hd:(x==("__debug__":Str))=false:=by decide):wpAny (model X.prog X.w) X.A (eval (.Name x pos) X.env) Q E s :=
 Calls.Name_function_global I.ok.kind hg (Calls.loadGlobal_global (by rw[I.ok.glob];exact I.mod.glob.keeps I.bk) hm h) hd
theorem Zcw {E:Value->Shared->Prop}{pins:List (Addr×Obj)}{s:Shared}{σ:St}{H:Hp}{x:Str}{u:Value}{pos:Pos}{Q:Value->Shared->Prop} (I:Inv X pins σ H s) (hg:Gl X x) (hm:X.mg x=none) (hv:bootBuiltins x=some u) (h:Q u s)
  (hn:x≠"__name__":=by decide) (hd:(x==("__debug__":Str))=false:=by decide):wpAny (model X.prog X.w) X.A (eval (.Name x pos) X.env) Q E s:=by
 obtain⟨mb,h1,h2⟩:=I.mod.blt
 exact Calls.Name_function_global I.ok.kind hg (Calls.loadGlobal_builtin (by rw[I.ok.glob];exact I.mod.glob.keeps I.bk) hm (by rw[I.ok.blt];exact h1.keeps I.bk) ((h2 x hn).trans hv) h) hd
theorem Zax {x:Str}{v:V}{u:Value}{pos:Pos} (hg:Gl X x) (hm:X.mg x=some u) (r:RelV v u) (hd:(x==("__debug__":Str))=false:=by decide):PE X (.Name x pos) (tC v) :=
 λ_ _ _ H _ I h=>ZfS I hg hm ⟨v,H,I,r,h⟩ hd
theorem Zht {x:Str}{v:V}{u:Value}{pos:Pos} (hg:Gl X x) (hm:X.mg x=none) (hv:bootBuiltins x=some u) (r:RelV v u) (hn:x≠"__name__":=by decide) (hd:(x==("__debug__":Str))=false:=by decide):PE X (.Name x pos) (tC v) :=
 λ_ _ _ H _ I h=>Zcw I hg hm hv ⟨v,H,I,r,h⟩ hn hd
variable {a b:Expr}{ta tb:TE}{pos:Pos}
noncomputable def tB (t:TE):TT:=fun σ H Q=>t σ H λx H1=>∃c,x=.bl c/\Q c H1
theorem Zdd {e:Expr}{t:TE} (h:PE X e t) (he:∀whole,isTrue e X.env whole=(do let v <-whole;standAt e.pos;holding [v] (truthy v)):=by intro _;rfl):PT X e (tB t):=by
 intro pins s σ H Q I hw
 refine isTrue_plain (thn (h pins s σ H _ I hw) λv s1 ⟨x,H1,I1,r1,q1⟩=>?_) (he _)
 obtain⟨d,rfl,q⟩:=q1
 cases r1
 exact wpAny_truthy_bool ⟨H1,I1,q⟩
variable {tA tB':TT}{rest:List Expr}
noncomputable def tAnd (t u:TT):TT:=fun σ H Q=>t σ H λc H1=>if c=true then u σ H1 Q else Q false H1
noncomputable def tOr (t u:TT):TT:=fun σ H Q=>t σ H λc H1=>if c=true then Q true H1 else u σ H1 Q
noncomputable def tNot (t:TT):TT:=fun σ H Q=>t σ H λc H1=>Q (!c) H1
theorem Zde (ha:PT X a tA):PW X (.BoolOp .And [a] pos) tA:=by
 intro wh pins s σ H Q I h
 refine isTrue_and (thn (ha pins s σ H Q I h) λc s1 e=>?_)
 cases c with
 |true=>exact isTrue_and_nil e
 |false=>exact e
theorem Zei (ha:PT X a tA):PW X (.BoolOp .Or [a] pos) tA:=by
 intro wh pins s σ H Q I h
 refine isTrue_or (thn (ha pins s σ H Q I h) λc s1 e=>?_)
 cases c with
 |false=>exact isTrue_or_nil e
 |true=>exact e
theorem Zfo (ha:PT X a tA) (hb:PW X (.BoolOp .And (b::rest) pos) tB'):PW X (.BoolOp .And (a::b::rest) pos) (tAnd tA tB'):=by
 intro wh pins s σ H Q I h
 refine isTrue_and (thn (ha pins s σ H _ I h) λc s1 ⟨H1,I1,q1⟩=>?_)
 cases c with
 |true=>exact hb wh pins s1 σ H1 Q I1 q1
 |false=>exact⟨H1,I1,q1⟩
theorem Zg3 (ha:PT X a tA) (hb:PW X (.BoolOp .Or (b::rest) pos) tB'):PW X (.BoolOp .Or (a::b::rest) pos) (tOr tA tB'):=by
 intro wh pins s σ H Q I h
 refine isTrue_or (thn (ha pins s σ H _ I h) λc s1 ⟨H1,I1,q1⟩=>?_)
 cases c with
 |true=>exact⟨H1,I1,q1⟩
 |false=>exact hb wh pins s1 σ H1 Q I1 q1
theorem Zej (ha:PT X a tA):PT X (.UnaryOp .Not a pos) (tNot tA):=by
 intro pins s σ H Q I h
 exact isTrue_not (ha pins s σ H (λc H1=>Q (!c) H1) I h)
noncomputable def ZoE (ta tb:TE):TE:=fun σ H Q=>ta σ H λx H1=>∃c,x=.bl c/\if c=true then tb σ H1 Q else Q (.bl false) H1
noncomputable def tOrV (ta tb:TE):TE:=fun σ H Q=>ta σ H λx H1=>∃c,x=.bl c/\if c=true then Q (.bl true) H1 else tb σ H1 Q
theorem Zdf {op}{t:TE} (h:PE X a t):PE X (.BoolOp op [a] pos) t:=λpins s σ H Q I hw=>BoolOp_one (h pins s σ H Q I hw)
theorem Zdg (ha:PE X a ta) (hb:PE X (.BoolOp .And (b::rest) pos) tb):PE X (.BoolOp .And (a::b::rest) pos) (ZoE ta tb):=by
 intro pins s σ H Q I h
 refine BoolOp_and (thn (ha pins s σ H _ I h) λv s1 ⟨x,H1,I1,r1,q1⟩=>?_)
 obtain⟨c,rfl,q1⟩:=q1
 cases r1
 refine wpAny_truthy_bool ?_
 cases c with
 |true=>exact hb pins s1 σ H1 Q I1 q1
 |false=>exact⟨.bl false,H1,I1,rfl,q1⟩
theorem pe_or (ha:PE X a ta) (hb:PE X (.BoolOp .Or (b::rest) pos) tb):PE X (.BoolOp .Or (a::b::rest) pos) (tOrV ta tb):=by
 intro pins s σ H Q I h
 refine BoolOp_or (thn (ha pins s σ H _ I h) λv s1 ⟨x,H1,I1,r1,q1⟩=>?_)
 obtain⟨c,rfl,q1⟩:=q1
 cases r1
 refine wpAny_truthy_bool ?_
 cases c with
 |false=>exact hb pins s1 σ H1 Q I1 q1
 |true=>exact⟨.bl true,H1,I1,rfl,q1⟩
end
noncomputable def SqL (K:PySem.W.Frag) (H:Hp) (a:Addr) (xs:List V):Prop :=
 Rd H a (.lst xs) \/
  ∃(o:Obj) (its:Array Value) (n:Nat),K.lookup a=some o/\o.cls=.type "list"/\o.dict=none/\o.data=.seq its n/\its.size<=sizeLine/\Vals xs its.toList
noncomputable def SqT (K:PySem.W.Frag) (H:Hp) (a:Addr) (xs:List V):Prop :=
 Rd H a (.tup xs) \/
  ∃(o:Obj) (its:Array Value) (n:Nat),K.lookup a=some o/\o.cls=.type "tuple"/\o.data=.seq its n/\its.size<=sizeLine/\Vals xs its.toList
noncomputable def absV:Value->Option V
 |.none=>some .non
 |.bool b=>some (.bl b)
 |.int i _=>some (.int i)
 |.str x _=>some (.str x)
 |.bytes b _=>some (.byt b)
 |.float b _=>some (.flt b)
 |.ref a=>some (.ref a)
 |.type n=>some (.ty n)
 |_=>none
theorem RelV.abs {x:V}{u:Value} (r:RelV x u):absV u=some x:=by
 cases x with
 |non=>cases r;rfl
 |bl _=>cases r;rfl
 |int _=>obtain⟨t,rfl⟩:=r;rfl
 |str _=>obtain⟨t,rfl⟩:=r;rfl
 |byt _=>obtain⟨t,rfl⟩:=r;rfl
 |flt _=>obtain⟨t,rfl⟩:=r;rfl
 |ref _=>cases r;rfl
 |ty _=>cases r;rfl
theorem RelV.inj {x y:V}{u:Value} (r:RelV x u) (q:RelV y u):x=y:=YD (r.abs.symm.trans q.abs)
theorem Vals.inj:∀{xs ys:List V}{us:List Value},Vals xs us->Vals ys us->xs=ys
 |_,_,_,.nil,.nil=>rfl
 |_,_,_,.cons r t,.cons r' t'=>by rw[r.inj r',Vals.inj t t']
section
variable {X:Cx}{pins:List (Addr×Obj)}{σ:St}{H:Hp}{s:Shared}{a:Addr}{xs ys:List V}
theorem SqL.of {K:PySem.W.Frag} (h:H a=some (.lst xs)):SqL K H a xs:=.inl (.inl h)
theorem SqT.of {K:PySem.W.Frag} (h:H a=some (.tup xs)):SqT K H a xs:=.inl (.inl h)
theorem Inv.list (I:Inv X pins σ H s) (h:SqL X.K H a xs):∃its:List Value,Vals xs its/\PlainL s.heap a its.toArray/\xs.length<=sizeLine:=by
 rcases h with h|⟨o,its,n,hk,hc,hd,hs,hz,r⟩
 ·obtain⟨z,its,n,r,e⟩:=h.ok I.hok
  exact⟨its,r,⟨_,n,e,rfl,rfl,rfl⟩,z⟩
 ·refine⟨its.toList,r,⟨o,n,I.kIn a o hk,hc,hd,by simpa using hs⟩,?_⟩
  have e:=r.length
  simp only[YK]at e
  omega
theorem Inv.tuple (I:Inv X pins σ H s) (h:SqT X.K H a xs):∃its:List Value,Vals xs its/\IsTup s.heap a its.toArray/\xs.length<=sizeLine:=by
 rcases h with h|⟨o,its,n,hk,hc,hs,hz,r⟩
 ·obtain⟨z,its,r,p⟩:=h.ok I.hok
  exact⟨its,r,p,z⟩
 ·refine⟨its.toList,r,⟨o,I.kIn a o hk,hc,n,by simpa using hs⟩,?_⟩
  have e:=r.length
  simp only[YK]at e
  omega
theorem Inv.ZcV (I:Inv X pins σ H s) (h:SqL X.K H a xs) (h':SqL X.K H a ys):xs=ys:=by
 obtain⟨its,r,⟨o,n,e,_,_,d⟩,_⟩:=I.list h
 obtain⟨its',r',⟨o',n',e',_,_,d'⟩,_⟩:=I.list h'
 rw[e]at e';cases e'
 rw[d]at d'
 injection d' with d1 _
 have:its=its':=by simpa using congrArg Array.toList d1
 subst this
 exact r.inj r'
theorem Inv.Zi1 (I:Inv X pins σ H s) (h:SqT X.K H a xs) (h':SqT X.K H a ys):xs=ys:=by
 obtain⟨its,r,⟨o,e,_,n,d⟩,_⟩:=I.tuple h
 obtain⟨its',r',⟨o',e',_,n',d'⟩,_⟩:=I.tuple h'
 rw[e]at e';cases e'
 rw[d]at d'
 injection d' with d1 _
 have:its=its':=by simpa using congrArg Array.toList d1
 subst this
 exact r.inj r'
end
noncomputable abbrev Cx.Ziy (X:Cx) (E:Value->Shared->Prop):Cx:={X with xe:=E}
noncomputable abbrev Cx.nox (X:Cx):Cx:=X.Ziy λ_ _=>False
theorem Cx.Ok.Ziy {X:Cx} (ok:X.Ok) (E:Value->Shared->Prop):(X.Ziy E).Ok :=
 ⟨ok.mod,ok.kind,ok.glob,ok.blt,ok.above,ok.inj,ok.has,ok.cab,ok.hd,ok.frames,ok.stk,ok.exf,ok.bs,ok.bsz,ok.noex,ok.exfs,ok.funs,ok.frf⟩
theorem Cx.Ok.Zek {X:Cx}{E:Value->Shared->Prop} (ok:(X.Ziy E).Ok):X.Ok :=
 ⟨ok.mod,ok.kind,ok.glob,ok.blt,ok.above,ok.inj,ok.has,ok.cab,ok.hd,ok.frames,ok.stk,ok.exf,ok.bs,ok.bsz,ok.noex,ok.exfs,ok.funs,ok.frf⟩
section
variable {X:Cx}{pins:List (Addr×Obj)}{σ:St}{H:Hp}{s:Shared}{E:Value->Shared->Prop}
theorem Inv.Ziy (I:Inv X pins σ H s) (E:Value->Shared->Prop):Inv (X.Ziy E) pins σ H s:=⟨I.ok.Ziy E,I.os,I.bare,I.base,I.loc,I.cell,I.free,I.freeC,I.pin,I.hok,I.len⟩
theorem Inv.Zek (I:Inv (X.Ziy E) pins σ H s):Inv X pins σ H s:=⟨I.ok.Zek,I.os,I.bare,I.base,I.loc,I.cell,I.free,I.freeC,I.pin,I.hok,I.len⟩
theorem SP.Zek {D:Ends}{f:Flow}{s':Shared} (h:SP (X.Ziy E) pins D f s'):SP X pins D f s':=by
 cases f with
 |next=>obtain⟨σ',H',I,q⟩:=h;exact⟨σ',H',I.Zek,q⟩
 |brk=>obtain⟨σ',H',I,q⟩:=h;exact⟨σ',H',I.Zek,q⟩
 |cont=>obtain⟨σ',H',I,q⟩:=h;exact⟨σ',H',I.Zek,q⟩
 |ret u=>obtain⟨v,σ',H',I,r,q⟩:=h;exact⟨v,σ',H',I.Zek,r,q⟩
end
section
variable {X:Cx}{st:Stmt}{rest:List Stmt}{t u:TS}{e:Expr}{te:TE}{pos:Pos}
noncomputable def ZoF:TS:=λD σ H=>D.nx σ H
noncomputable def tSeq (t u:TS):TS:=λD σ H=>t {D with nx:=u D} σ H
theorem ZE:PSs X [] ZoF:=λ_ _ σ H _ I h=>wpAny_execs_nil ⟨σ,H,I,h⟩
theorem Zd (h1:PS X st t) (h2:PSs X rest u):PSs X (st::rest) (tSeq t u):=by
 intro pins s σ H D I h
 refine wpAny_execs_cons (thn (h1 pins s σ H {D with nx:=u D} I h) λf s1 q=>?_)
 cases f with
 |next =>
  obtain⟨σ',H',I',q⟩:=q
  exact h2 pins s1 σ' H' D I' q
 |ret v=>exact q
 |brk=>exact q
 |cont=>exact q
theorem Zf (h1:PS X st t):PSs X [st] t:=by
 intro pins s σ H D I h
 refine wpAny_execs_cons (thn (h1 pins s σ H D I h) λf s1 q=>?_)
 cases f with
 |next=>exact wpAny_execs_nil q
 |ret v=>exact q
 |brk=>exact q
 |cont=>exact q
theorem Inv.quiet {pins:List (Addr×Obj)}{σ:St}{H:Hp}{s:Shared} (I:Inv X pins σ H s):interactive X.env=false:=by simp[interactive,I.ok.kind]
noncomputable def ZoG (te:TE):TS:=λD σ H=>te σ H λ_ H1=>D.nx σ H1
theorem ZaM (he:PE X e te) (hs:swapsWith e none pos.line X.env=pure false:=by rfl):PS X (.Expr e pos) (ZoG te):=by
 intro pins s σ H D I h
 exact wpAny_Expr_any (thn (he pins s σ H _ I h) λv s1 ⟨x,H1,I1,r1,q1⟩=>⟨σ,H1,I1,q1⟩) I.quiet hs
noncomputable def tRet (te:TE):TS:=λD σ H=>te σ H D.rt
theorem Zt (he:PE X e te):PS X (.Return (some e) pos) (tRet te):=by
 intro pins s σ H D I h
 exact wpAny_Return_some (thn (he pins s σ H _ I h) λv s1 ⟨x,H1,I1,r1,q1⟩=>⟨x,σ,H1,I1,r1,q1⟩)
noncomputable def tIfS (c:TT) (t u:TS):TS:=λD σ H=>c σ H λb H1=>if b=true then t D σ H1 else u D σ H1
theorem ZO {c:Expr}{a b:List Stmt}{tc:TT} (hc:PT X c tc) (ha:PSs X a t) (hb:PSs X b u):PS X (.If c a b pos) (tIfS tc t u):=by
 intro pins s σ H D I h
 refine wpAny_If (thn (hc pins s σ H _ I h) λd s1 ⟨H1,I1,q1⟩=>?_)
 cases d with
 |true=>exact ha pins s1 σ H1 D I1 q1
 |false=>exact hb pins s1 σ H1 D I1 q1
end
noncomputable abbrev TG:=V->St->Hp->(St->Hp->Prop)->Prop
noncomputable abbrev TGs:=List V->St->Hp->(St->Hp->Prop)->Prop
noncomputable def PG (X:Cx) (target:Expr) (t:TG):Prop :=
 ∀(pins:List (Addr×Obj)) (s:Shared) (σ:St) (H:Hp) (v:V) (u:Value) (Q:St->Hp->Prop),Inv X pins σ H s->RelV v u->t v σ H Q ->
  wpAny (model X.prog X.w) X.A (assign target X.env u) (λ_ s'=>∃σ' H',Inv X pins σ' H' s'/\Q σ' H') X.xe s
noncomputable def PGs (X:Cx) (ts:List Expr) (t:TGs):Prop :=
 ∀(pins:List (Addr×Obj)) (s:Shared) (σ:St) (H:Hp) (vs:List V) (us:List Value) (Q:St->Hp->Prop),Inv X pins σ H s->Vals vs us->t vs σ H Q ->
  wpAny (model X.prog X.w) X.A (assignInOrder ((assignEach ts X.env).map (·.2)) us) (λ_ s'=>∃σ' H',Inv X pins σ' H' s'/\Q σ' H') X.xe s
noncomputable abbrev TSet:=V->V->V->Hp->(Hp->Prop)->Prop
noncomputable def PSet (X:Cx) (t:TSet):Prop :=
 ∀(pins:List (Addr×Obj)) (s:Shared) (σ:St) (H:Hp) (o i v:V) (ov iv u:Value) (Q:Hp->Prop),Inv X pins σ H s->RelV o ov->RelV i iv->RelV v u->t o i v H Q ->
  wpAny (model X.prog X.w) X.A (setItem ov iv u) (λ_ s'=>∃H',Inv X pins σ H' s'/\Q H') X.xe s
noncomputable abbrev TIp:=V->V->Hp->VK->Prop
noncomputable def PIp (X:Cx) (op:Operator) (t:TIp):Prop :=
 ∀(pins:List (Addr×Obj)) (s:Shared) (σ:St) (H:Hp) (x y:V) (v u:Value) (Q:VK),Inv X pins σ H s->RelV x v->RelV y u->t x y H Q ->
  wpAny (model X.prog X.w) X.A (inplaceOp op v u) (EP X pins σ Q) X.xe s
section
variable {X:Cx}{pos:Pos}
noncomputable def Zfe (i:Nat):TG:=λv σ H Q=>Q (σ.set i (some v)) H
theorem Zr {i:Nat}{x:Str} (hN:X.N.Nodup) (hi:X.N[i]?=some x) (hx:Loc X.env.scope x) (hf:X.fn x=true\/X.env.scope.names.lookup x=some .local:=by first|exact .inl rfl|exact .inr rfl|assumption):PG X (.Name x pos) (Zfe i):=by
 intro pins s σ H v u Q I r h
 exact wpAny_assign_Name (Zeg I hN hi hx r (λs' I'=>⟨_,H,I',h⟩) hf)
noncomputable def gNil:TGs:=λvs σ H Q=>vs=[]/\Q σ H
noncomputable def Zmn (t:TG) (u:TGs):TGs:=λvs σ H Q=>∃v r,vs=v::r/\t v σ H fun σ' H'=>u r σ' H' Q
theorem Zcn:PGs X [] gNil:=by
 intro pins s σ H vs us Q I r h
 obtain⟨e,h⟩:=h
 subst e
 cases r
 exact assignInOrder_nil ⟨σ,H,I,h⟩
theorem ZY {e:Expr}{es:List Expr}{t:TG}{u:TGs} (h1:PG X e t) (h2:PGs X es u)
  (hs:(assignEach (e::es) X.env).map (·.2)=assign e X.env::(assignEach es X.env).map (·.2):=by rfl):PGs X (e::es) (Zmn t u):=by
 intro pins s σ H vs us Q I r h
 obtain⟨v,vr,e1,h⟩:=h
 subst e1
 cases r with
 |cons r rr =>
  rw[hs]
  refine assignInOrder_cons (thn (h1 pins s σ H _ _ _ I r h) λ_ s1 ⟨σ1,H1,I1,q1⟩=>?_)
  exact h2 pins s1 σ1 H1 _ _ Q I1 rr q1
noncomputable def gTup (K:PySem.W.Frag) (n:Nat) (t:TGs):TG:=λv σ H Q=>∃a xs,v=.ref a/\SqT K H a xs/\xs.length=n/\t xs σ H Q
theorem Zhx {es:List Expr}{k:Nat}{t:TGs}{n:Nat} (hc:X.calm=true) (h:PGs X es t)
  (hn:(assignEach es X.env).length=n:=by rfl) (hst:(assignEach es X.env).findIdx? (·.1)=none:=by rfl):PG X (.Tuple es k pos) (gTup X.K n t):=by
 intro pins s σ H v u Q I r hw
 obtain⟨a,xs,e1,hq,hl,hw⟩:=hw
 subst e1
 cases r
 obtain⟨its,rv,ht,hz⟩:=I.tuple hq
 refine assign_Tuple_tuple (I.ok.hd hc) ht (by simp[hn,<-hl,rv.length]) hst λh' hx=>?_
 have I1:Inv X pins σ H {s with heap:=h'}:=I.kept (t':=s.toks) λb o e=>hx b o (Yo (Yj e)) e
 exact h pins _ σ H xs _ Q I1 (by simpa using rv) hw
noncomputable def gSub (to ti:TE) (t:TSet):TG:=λv σ H Q=>to σ H λo H1=>ti σ H1 λi H2=>t o i v H2 λH3=>Q σ H3
theorem Zel {o i:Expr}{to ti:TE}{t:TSet} (ho:PE X o to) (hi:PE X i ti) (hs:PSet X t)
  (ha:∀v,assign (.Subscript o i pos) X.env v=(do
   let ov <-holding [v] (eval o X.env)
   let iv <-holding [v,ov] (eval i X.env)
   standAt pos
   holding [v,ov,iv] (setItem ov iv v)
   release [v,ov,iv] []):=by intro _;rfl):PG X (.Subscript o i pos) (gSub to ti t):=by
 intro pins s σ H v u Q I r h
 rw[ha]
 refine Ya (wpAny_holding (thn (ho pins s σ H _ I h) λov s1 ⟨x,H1,I1,r1,q1⟩=>?_))
 refine Ya (wpAny_holding (thn (hi pins s1 σ H1 _ I1 q1) λiv s2 ⟨y,H2,I2,r2,q2⟩=>?_))
 refine Ya (wpAny_standAt (Ya (wpAny_holding (thn (hs pins s2 σ H2 x y v ov iv u _ I2 r1 r2 r q2) λ_ s3 ⟨H3,I3,q3⟩=>?_))))
 exact wpAny_release ⟨σ,H3,I3,q3⟩
noncomputable def Zm1 (te:TE) (g:TG):TS:=λD σ H=>te σ H λx H1=>g x σ H1 D.nx
theorem Zcx {tg e:Expr}{te:TE}{g:TG} (he:PE X e te) (hg:PG X tg g) (hs:swapsWithSole [tg] e pos.line X.env=pure false:=by rfl) (hw:swappedStores [tg] e X.env=pure none:=by rfl)
  (h1:(assignEach [tg] X.env).map (·.2)=[assign tg X.env]:=by rfl):PS X (.Assign [tg] e pos) (Zm1 te g):=by
 intro pins s σ H D I h
 refine wpAny_Assign_stores (thn (he pins s σ H _ I h) λv s1 ⟨x,H1,I1,r1,q1⟩=>?_) hs hw
 rw[h1]
 exact thn (hg pins s1 σ H1 x v _ I1 r1 q1) λ_ s2 q=>q
theorem Zp {i:Nat}{x:Str}{e:Expr}{te:TE}{pos':Pos} (hN:X.N.Nodup) (hi:X.N[i]?=some x) (hx:Loc X.env.scope x) (he:PE X e te) (hs:swapsWith e (some (.Name x pos')) pos.line X.env=pure false:=by rfl) (hf:X.fn x=true\/X.env.scope.names.lookup x=some .local:=by first|exact .inl rfl|exact .inr rfl|assumption) :
  PS X (.Assign [.Name x pos'] e pos) (Zm1 te (Zfe i)):=by
 intro pins s σ H D I h
 refine wpAny_Assign_Name (thn (he pins s σ H _ I h) λv s1 ⟨y,H1,I1,r1,q1⟩=>?_) hs
 exact Zeg I1 hN hi hx r1 (λs2 I2=>⟨_,H1,I2,q1⟩) hf
noncomputable def tAug (i:Nat) (te:TE) (ti:TIp):TS:=λD σ H=>∃x,σ[i]?=some (some x)/\te σ H λy H1=>ti x y H1 λz H2=>D.nx (σ.set i (some z)) H2
theorem ps_aug {i:Nat}{x:Str}{e:Expr}{te:TE}{op:Operator}{ti:TIp}{pos':Pos} (hN:X.N.Nodup) (hi:X.N[i]?=some x) (hx:Loc X.env.scope x) (he:PE X e te) (ho:PIp X op ti) (hf:X.fn x=true\/X.env.scope.names.lookup x=some .local:=by first|exact .inl rfl|exact .inr rfl|assumption) :
  PS X (.AugAssign (.Name x pos') op e pos) (tAug i te ti):=by
 intro pins s σ H D I h
 obtain⟨v,e1,h⟩:=h
 obtain⟨m,hn,hl⟩:=I.loc
 have vis:Vis X.env.scope x:=by rcases hx with k|k;exact .inl k;exact .inr (.inl k)
 obtain⟨u,r,l⟩:=hl i x v hi e1 vis
 refine wpAny_AugAssign_Name ?_
 have go:wpAny (model X.prog X.w) X.A (eval e X.env) (λw s₂=>wpAny (model X.prog X.w) X.A (inplaceOp op u w) (λr s₃=>wpAny (model X.prog X.w) X.A (storeName X.env x r) (λ_=>SP X pins D .next) X.xe s₃) X.xe s₂) X.xe s:=by
  refine thn (he pins s σ H _ I h) λw s1 ⟨y,H1,I1,r1,q1⟩=>?_
  refine thn (ho pins s1 σ H1 v y u w _ I1 r r1 q1) λz s2 ⟨zv,H2,I2,r2,q2⟩=>?_
  exact Zeg I2 hN hi hx r2 (λs3 I3=>⟨_,H2,I3,q2⟩) hf
 rcases l with⟨hk,hm⟩|⟨hk,c,hc,hcell⟩
 ·exact wpAny_loadName_local I.ok.kind hk hn hm go
 ·rcases hk with hk|hk
  ·exact wpAny_loadName_cell I.ok.kind hk hc hcell go
  ·rcases hx with k|k
   ·have:X.env.scope.names.lookup x=some .free:=hk
    rw[k]at this;cases this
   ·have:X.env.scope.names.lookup x=some .free:=hk
    rw[k]at this;cases this
noncomputable def ipI (f:Int->Int->Int):TIp:=λx y H Q=>∃i j,x=.int i/\y=.int j/\Q (.int (f i j)) H
theorem ip_sub:PIp X .Sub (ipI λi j=>i-j):=by
 intro pins s σ H x y v u Q I r1 r2 h
 obtain⟨i,j,e1,e2,q⟩:=h
 subst e1;subst e2
 obtain⟨t,rfl⟩:=r1
 obtain⟨t',rfl⟩:=r2
 exact isub_int ⟨.int _,H,I.tok _,⟨_,rfl⟩,q⟩
end
section
variable {X:Cx}{pos:Pos}
noncomputable def Zls (c:TT) (tb:TS):TS:=λD σ H=>∃W:Nat->St->Hp->Prop,(∃m,W m σ H)/\∀m σ H,W m σ H ->
 c σ H λb H1=>if b=true then ∃N:St->Hp->Prop,(∀σ' H',N σ' H'->∃m',m'<m/\W m' σ' H')/\tb {D with nx:=N,ct:=N,bk:=D.nx} σ H1 else D.nx σ H1
theorem Zhy {c:Expr}{body:List Stmt}{tc:TT}{tb:TS} (hp:PassesOwn (model X.prog X.w) X.A X.env X.xe) (hc:PT X c tc) (hb:PSs X body tb):PS X (.While c body [] pos) (Zls tc tb):=by
 intro pins s σ H D I h
 obtain⟨W,⟨m0,w0⟩,turn⟩:=h
 refine wpAny_While (codeAny_whileLoop (λn s'=>∃σ' H',Inv X pins σ' H' s'/\W n σ' H') ?_ m0 ⟨σ,H,I,w0⟩)
 rintro n s1 ⟨σ1,H1,I1,w1⟩
 refine wpAny_passesOwn hp (thn (hc pins s1 σ1 H1 _ I1 (turn n σ1 H1 w1)) λb s2 ⟨H2,I2,q2⟩=>?_)
 cases b with
 |true =>
  obtain⟨N,hN,q2⟩:=q2
  rw[Yd rfl]
  refine wpAny_passesOwn hp (thn (hb pins s2 σ1 H2 _ I2 q2) λf s3 q3=>?_)
  cases f with
  |next =>
   obtain⟨σ3,H3,I3,n3⟩:=q3
   obtain⟨m',hm,w3⟩:=hN σ3 H3 n3
   exact⟨m',hm,σ3,H3,I3,w3⟩
  |cont =>
   obtain⟨σ3,H3,I3,n3⟩:=q3
   obtain⟨m',hm,w3⟩:=hN σ3 H3 n3
   exact⟨m',hm,σ3,H3,I3,w3⟩
  |brk=>exact q3
  |ret v=>exact q3
 |false =>
  rw[Yb YB]
  exact wpAny_execs_nil ⟨σ1,H2,I2,q2⟩
end
structure It where
 go:Nat->Hp->Prop
 yld:Nat->Hp->V->Hp->Prop
 stop:Nat->Hp->Prop
noncomputable def FpOk (X:Cx) (pins:List (Addr×Obj)) (H:Hp) (b:Addr):Prop :=
 H b=none/\b≠X.env.locals/\b∉X.fs/\(b∈X.ex\/X.s₀.heap.objs.size<=b)/\(∀x c,X.env.cells.lookup x=some c->c≠b)/\∀p∈X.pn++pins,p.1≠b
theorem Inv.fpOk {X:Cx}{pins:List (Addr×Obj)}{σ:St}{H H':Hp}{s:Shared}{b:Addr} (I:Inv X pins σ H s) (hb:s.heap.objs.size<=b) (hn:H' b=none):FpOk X pins H' b:=by
 refine⟨hn,Nat.ne_of_gt (Ys I.lt hb),I.Zlq hb,.inr (Yn I.sz hb),λx c e z=>?_,λp hp z=>?_⟩
 ·obtain⟨v,q⟩:=I.cell x c e
  exact absurd (Ys q.lt (by rw[z];exact hb)) (YA _)
 ·exact absurd (Ys (Yj (I.pin p hp).1) (by rw[z];exact hb)) (YA _)
structure Turn (P:Program) (w:World) (K:PySem.W.Frag) (tg:Expr) (J:It) (fp:List Addr) (it:Addr) (tn:Nat->Heap->Prop):Prop where
 mem:it∈fp
 obj:∀i h,tn i h->∀b∈fp,∃o,h.get? b=some o/\∀v,o.data≠.cell v
 keep:∀i h h',tn i h->(∀b∈fp,∀o,h.get? b=some o->h'.get? b=some o)->tn i h'
 item:∀(X:Cx),X.prog=P->X.w=w->X.K=K->X.calm=true->∀(i:Nat) (pins:List (Addr×Obj)) (s:Shared) (σ:St) (H:Hp) (E:Value->Shared->Prop),Inv X pins σ H s->(∀b∈fp,FpOk X pins H b)->tn i s.heap->J.go i H ->
  wpAny (model P w) X.A (pyNext (.ref it)) (λr s1=>∃u,r=some u /\
   wpAny (model P w) X.A (letOwnedTupleGo tg (.ref it) u) (λ_ s2=>∃x H',Inv X pins σ H' s2/\RelV x u/\J.yld i H x H'/\tn (i+1) s2.heap/\∀b∈fp,H' b=none) E s1) E s
 done:∀(X:Cx),X.prog=P->X.w=w->X.K=K->X.calm=true->∀(i:Nat) (pins:List (Addr×Obj)) (s:Shared) (σ:St) (H:Hp) (E:Value->Shared->Prop),Inv X pins σ H s->(∀b∈fp,FpOk X pins H b)->tn i s.heap->J.stop i H ->
  wpAny (model P w) X.A (pyNext (.ref it)) (λr s1=>r=none/\Inv X pins σ H s1) E s
 self:∀(A:Around) (i:Nat) (s:Shared) (Q:Value->Shared->Prop) (E:Value->Shared->Prop),tn i s.heap->Q (.ref it) s->wpAny (model P w) A (pyIter (.ref it)) Q E s
noncomputable abbrev TI:=St->Hp->(It->Hp->Prop)->Prop
noncomputable def PIE (X:Cx) (pins:List (Addr×Obj)) (σ:St) (tg:Expr) (R:It->Hp->Prop) (itv:Value) (s2:Shared):Prop :=
 ∃(it:Addr) (fp:List Addr) (tn:Nat->Heap->Prop) (J:It) (H':Hp),itv=.ref it/\Inv X pins σ H' s2/\Turn X.prog X.w X.K tg J fp it tn/\tn 0 s2.heap/\(∀b∈fp,FpOk X pins H' b)/\R J H'
noncomputable def PI (X:Cx) (tg iter:Expr) (wi:TI):Prop :=
 ∀(pins:List (Addr×Obj)) (s:Shared) (σ:St) (H:Hp) (R:It->Hp->Prop),Inv X pins σ H s->wi σ H R ->
  wpAny (model X.prog X.w) X.A (eval iter X.env) (λv s1=>wpAny (model X.prog X.w) X.A (pyIter v) (PIE X pins σ tg R) X.xe s1) X.xe s
theorem go_of {M : Model} {A : Around} {E : Value → Shared → Prop} {s : Shared} {tg : Expr} {it : Addr} {u : Value} {o : Obj} {n : String} {vs : Array Value} {Q : Unit → Shared → Prop} (ho : s.heap.get? it = some o) (hc : o.cls = .type n) (hd : o.data = .fields vs)
    (hn : ["enumerate", "zip", "dict_itemiterator", "dict_reverseitemiterator", "odict_iterator", "itertools.zip_longest", "itertools.pairwise"].contains n = false) (hQ : Q () s) : wpAny M A (letOwnedTupleGo tg (.ref it) u) Q E s := by
  unfold letOwnedTupleGo
  cases tg <;> first
    | exact Yc hQ
    | (cases u <;> first
        | exact Yc hQ
        | (refine Ya (wpAny_load ho ?_)
           rw [hc, hd]
           show wpAny M A (if (["enumerate", "zip", "dict_itemiterator", "dict_reverseitemiterator", "odict_iterator", "itertools.zip_longest", "itertools.pairwise"].contains n && vs[0]? == some (rawInt _)) = true then _ else _) Q E s
           rw [Yb (by intro h; rw [hn, Bool.false_and] at h; cases h)]
           exact Yc hQ))
noncomputable def Itl (K:PySem.W.Frag) (a:Addr):It :=
 ⟨λi H=>∃xs x,SqL K H a xs/\xs[i]?=some x,λi H x H'=>H'=H/\∀xs,SqL K H a xs->xs[i]?=some x,λi H=>∃xs,SqL K H a xs/\xs.length<=i⟩
noncomputable def Itr (lo:Int) (n:Nat):It:=⟨λi _=>i<n,λi H x H'=>H'=H/\x=.int (lo+i),λi _=>n<=i⟩
theorem Zm2 {P:Program}{w:World}{K:PySem.W.Frag}{tg:Expr} (a it:Addr):Turn P w K tg (Itl K a) [it] it (λi h=>h.IsListIter it a i) where
 mem:=by simp
 obj:=λi h st b hb=>by
  have e:b=it:=by simpa using hb
  subst e
  obtain⟨o,e,c,d⟩:=st
  exact⟨o,e,λv z=>by rw[d]at z;cases z⟩
 keep:=λi h h' st k=>st.at λo e=>k it (by simp) o e
 item:=by
  intro X hP hw hK hc i pins s σ H E I hf st hg
  subst hP hw hK
  obtain⟨xs,x,hq,hx⟩:=hg
  obtain⟨its,rv,p,hz⟩:=I.list hq
  obtain⟨u,hu,ru⟩:=rv.get hx
  obtain⟨f0,f1,f2,f3,f4,f5⟩:=hf it (by simp)
  refine wpAny_pyNext_list_item st p.isList (x:=u) (by simpa using hu) λh' st' sb=>?_
  have I1:Inv X pins σ H {s with heap:=h'}:=I.turned (t':=s.toks) (λb o hb e=>(sb.2 b hb).trans e) f0 f1 f3 f4 f5
  obtain⟨o,e,c,d⟩:=id st'
  exact⟨u,rfl,go_of (s:={s with heap:=h'}) e c d (by decide) ⟨x,H,I1,ru,⟨rfl,λys hy=>by rw[I.ZcV hy hq];exact hx⟩,st',λb hb=>(hf b hb).1⟩⟩
 done:=by
  intro X hP hw hK hc i pins s σ H E I hf st hg
  subst hP hw hK
  obtain⟨xs,hq,hx⟩:=hg
  obtain⟨its,rv,p,hz⟩:=I.list hq
  obtain⟨f0,f1,f2,f3,f4,f5⟩:=hf it (by simp)
  have hl:=rv.length
  exact wpAny_pyNext_list_end (I.ok.hd hc) st p.isList (by simp;omega) λh' eb=>⟨rfl,I.turned (t':=s.toks) (λb o hb e=>eb b o hb e) f0 f1 f3 f4 f5⟩
 self:=λ_ _ _ _ _ st h=>wpAny_pyIter_listiter st h
theorem Zlt {P:Program}{w:World}{K:PySem.W.Frag}{tg:Expr} (it:Addr) (lo:Int) (n:Nat):Turn P w K tg (Itr lo n) [it] it (λi h=>IsRangeIter h it (lo+(i:Nat)*1) ((n:Int)-(i:Nat)) 1) where
 mem:=by simp
 obj:=λi h st b hb=>by
  have e:b=it:=by simpa using hb
  subst e
  exact⟨_,st,λv z=>by
   have z':Data.fields _=Data.cell v:=z
   cases z'⟩
 keep:=λi h h' st k=>k it (by simp) _ st
 item:=by
  intro X hP hw hK hc i pins s σ H E I hf st hg
  subst hP hw hK
  obtain⟨f0,f1,f2,f3,f4,f5⟩:=hf it (by simp)
  have W:=Walks.range (prog:=X.prog) (w:=X.w) (I.ok.hd hc) it lo 1 n
  refine W.item i s _ _ hg st λv h' tk hv st' kk=>?_
  obtain⟨t,rfl⟩:=hv
  have I1:Inv X pins σ H {s with heap:=h',toks:=tk}:=I.turned (λb o hb e=>kk b o (by simpa using hb) e) f0 f1 f3 f4 f5
  refine⟨_,rfl,go_of (s:={s with heap:=h',toks:=tk}) (n:="range_iterator") st' rfl rfl (by decide) ⟨.int (lo+i),H,I1,⟨t,?_⟩,⟨rfl,rfl⟩,st',λb hb=>(hf b hb).1⟩⟩
  rw[Int.mul_one]
 done:=by
  intro X hP hw hK hc i pins s σ H E I hf st hg
  subst hP hw hK
  obtain⟨f0,f1,f2,f3,f4,f5⟩:=hf it (by simp)
  exact wpAny_pyNext_range_end (I.ok.hd hc) st (by have:n<=i:=hg;omega) λh' eb=>⟨rfl,I.turned (t':=s.toks) (λb o hb e=>eb b o hb e) f0 f1 f3 f4 f5⟩
 self:=λ_ _ _ _ _ st h=>wpAny_pyIter_rangeiter st h
section
variable {X:Cx}{tg:Expr}
noncomputable def Zmo (K:PySem.W.Frag) (tl:TE):TI:=fun σ H R=>tl σ H λx H1=>∃a,x=.ref a/\(∃xs,SqL K H1 a xs)/\R (Itl K a) H1
theorem Zdh {l:Expr}{tl:TE} (hl:PE X l tl):PI X tg l (Zmo X.K tl):=by
 intro pins s σ H R I h
 refine thn (hl pins s σ H _ I h) λv s1 ⟨x,H1,I1,r1,q1⟩=>?_
 obtain⟨a,e,⟨xs,hq⟩,q⟩:=q1
 subst e
 cases r1
 obtain⟨its,rv,p,hz⟩:=I1.list hq
 refine wpAny_pyIter_list p.isList ?_
 refine⟨s1.heap.objs.size,[s1.heap.objs.size],_,_,H1,rfl,I1.kept (t':=s1.toks) λb o e=>Yi _ e,Zm2 a _,⟨_,Yv _ rfl,rfl,rfl⟩,λb hb=>?_,q⟩
 have e:b=s1.heap.objs.size:=by simpa using hb
 subst e
 exact I1.fpOk (Yf _) (I1.hok.fresh (Yf _))
theorem Zkn {pins:List (Addr×Obj)}{σ:St}{H:Hp}{s:Shared}{R:It->Hp->Prop}{E:Value->Shared->Prop}{lo hi:Int}{t u v:Tok}{tk:Nat} (I:Inv X pins σ H s) (h1:-(2 ^ 62)<=lo) (h2:lo<2 ^ 62) (h3:-(2 ^ 62)<=hi) (h4:hi<2 ^ 62)
  (q:R (Itr lo (hi-lo).toNat) H):wpAny (model X.prog X.w) X.A (pyIter (.ref s.heap.objs.size)) (PIE X pins σ tg R) E {s with heap:=s.heap.push {cls:=.type "range",data:=.fields #[.int lo t,.int hi u,.int 1 v]},toks:=tk}:=by
 refine wpAny_pyIter_range (IsRange.new ..) (small_one h1 h2 h3 h4) ?_
 have I1:Inv X pins σ H {s with heap:=s.heap.push {cls:=.type "range",data:=.fields #[.int lo t,.int hi u,.int 1 v]},toks:=tk}:=I.kept λb o e=>Yi _ e
 refine⟨(s.heap.push {cls:=.type "range",data:=.fields #[.int lo t,.int hi u,.int 1 v]}).objs.size,[(s.heap.push {cls:=.type "range",data:=.fields #[.int lo t,.int hi u,.int 1 v]}).objs.size],_,_,H,rfl,
  I1.kept (t':=tk) λb o e=>Yi _ e,Zlt _ lo (hi-lo).toNat,?_,λb hb=>?_,q⟩
 ·have e1:lo+((0:Nat):Int)*1=lo:=by simp
  have e2:(((hi-lo).toNat:Nat):Int)-((0:Nat):Int)=Builtin.Range.rangeSize lo hi 1:=by rw[rangeSize_one];split<;>omega
  show IsRangeIter _ _ (lo+((0:Nat):Int)*1) ((((hi-lo).toNat:Nat):Int)-((0:Nat):Int)) 1
  rw[e1,e2]
  exact Yv _ rfl
 ·have e:b=(s.heap.push {cls:=.type "range",data:=.fields #[.int lo t,.int hi u,.int 1 v]}).objs.size:=by simpa using hb
  subst e
  exact I1.fpOk (Yf _) (I1.hok.fresh (Yf _))
noncomputable def ZoH (ta:TA):TI:=fun σ H R=>ta σ H λvs H1=>∃j:Int,vs=[.int j]/\-(2 ^ 62)<=j/\j<2 ^ 62/\R (Itr 0 j.toNat) H1
noncomputable def ZoI (ta:TA):TI:=fun σ H R=>ta σ H λvs H1=>∃i j:Int,vs=[.int i,.int j]/\(-(2 ^ 62)<=i/\i<2 ^ 62/\-(2 ^ 62)<=j/\j<2 ^ 62)/\R (Itr i (j-i).toNat) H1
theorem ZL {a:Expr}{ta:TA}{p pos:Pos} (hg:Gl X "range") (hm:X.mg "range"=none) (ha:PA X [a] ta) (hs:starEach [a] X.env=[(false,eval a X.env)]:=by rfl):PI X tg (.Call (.Name "range" p) [a] [] pos) (ZoH ta):=by
 intro pins s σ H R I h
 refine Call_ (Zcw I hg hm boot_range (PyProof.Rows.callWith_type1 (thn (ha pos pins s σ H _ I h) λus s1 ⟨vs,H1,I1,r1,q1⟩=>?_) hs rfl))
 obtain⟨j,e,q1,q2,q⟩:=q1
 subst e
 cases r1 with
 |cons r rr =>
  cases rr
  obtain⟨t,rfl⟩:=r
  exact call_range_1 (Zkn I1 (by omega) (by omega) q1 q2 (by simpa using q))
theorem Zm3 {a b:Expr}{ta:TA}{p pos:Pos} (hg:Gl X "range") (hm:X.mg "range"=none) (ha:PA X [a,b] ta) (hs:starEach [a,b] X.env=[(false,eval a X.env),(false,eval b X.env)]:=by rfl) (hs2:starEach [b] X.env=[(false,eval b X.env)]:=by rfl) :
  PI X tg (.Call (.Name "range" p) [a,b] [] pos) (ZoI ta):=by
 intro pins s σ H R I h
 refine Call_ (Zcw I hg hm boot_range (PyProof.Rows.callWith_type1 (thn (ha pos pins s σ H _ I h) λus s1 ⟨vs,H1,I1,r1,q1⟩=>?_) (by rw[hs,hs2]) (by rw[hs2];rfl)))
 obtain⟨i,j,e,⟨q1,q2,q3,q4⟩,q⟩:=q1
 subst e
 cases r1 with
 |cons r rr =>
  cases rr with
  |cons r' rr =>
   cases rr
   obtain⟨t,rfl⟩:=r
   obtain⟨t',rfl⟩:=r'
   exact call_range_2 (Zkn I1 q1 q2 q3 q4 q)
noncomputable def tFor (wi:TI) (g:TG) (tb:TS):TS:=λD σ H=>wi σ H λJ H1=>∃W:Nat->Nat->St->Hp->Prop,(∃m,W 0 m σ H1)/\∀i m σ H,W i m σ H ->
 (J.stop i H/\D.nx σ H)\/(J.go i H/\∃N:St->Hp->Prop,(∀σ' H',N σ' H'->∃m',m'<m/\W (i+1) m' σ' H')/\∀x H',J.yld i H x H'->g x σ H' fun σ2 H2=>tb {D with nx:=N,ct:=N,bk:=D.nx} σ2 H2)
noncomputable def Z8 (fp:List Addr) (h:Heap):List (Addr×Obj):=fp.filterMap λb=>(h.get? b).map λo=>(b,o)
theorem Zas {fp:List Addr}{h:Heap}{b:Addr}{o:Obj} (hb:b∈fp) (e:h.get? b=some o):(b,o)∈Z8 fp h:=List.mem_filterMap.mpr ⟨b,hb,by rw[e];rfl⟩
theorem ZeY {fp:List Addr}{h:Heap}{p:Addr×Obj} (hp:p∈Z8 fp h):p.1∈fp/\h.get? p.1=some p.2:=by
 obtain⟨b,hb,e⟩:=List.mem_filterMap.mp hp
 cases q:h.get? b with
 |none=>rw[q]at e;cases e
 |some o =>
  rw[q]at e
  have e':(b,o)=p:=YD e
  subst e'
  exact⟨hb,q⟩
theorem Inv.pinned {pins:List (Addr×Obj)}{σ:St}{H:Hp}{s:Shared}{fp:List Addr} (I:Inv X pins σ H s) (hf:∀b∈fp,FpOk X pins H b) (ho:∀b∈fp,∃o,s.heap.get? b=some o/\∀v,o.data≠.cell v):Inv X (pins++Z8 fp s.heap) σ H s :=
 I.ZU λp hp=>(Yy.mp hp).elim (λz=>I.pin p (Yk _ z)) λz=>by
  obtain⟨hb,e⟩:=ZeY z
  obtain⟨f0,f1,f2,_⟩:=hf p.1 hb
  obtain⟨o,e',d⟩:=ho p.1 hb
  rw[e]at e';cases e'
  exact⟨e,f0,f1,f2,d⟩
theorem Inv.Zbu {pins pl:List (Addr×Obj)}{σ:St}{H:Hp}{s:Shared} (I:Inv X (pins++pl) σ H s):Inv X pins σ H s:=I.ZU λp hp=>I.pin p (Yk _ (YG _ hp))
theorem Zdi {iter:Expr}{body:List Stmt}{wi:TI}{g:TG}{tb:TS}{pos:Pos} (hp:PassesOwn (model X.prog X.w) X.A X.env X.xe) (hc:X.calm=true) (hi:PI X tg iter wi) (hg:PG X tg g) (hb:PSs X body tb)
  (hs:∀x,foldedSetIterable iter X.env x=pure x:=by intro _;rfl):PS X (.For tg iter body [] pos) (tFor wi g tb):=by
 intro pins s σ H D I h
 refine wpAny_For (thn (hi pins s σ H _ I h) λv s1 h1=>thn h1 λitv s2 h2=>?_) hs
 obtain⟨it,fp,tn,J,H2,e,I2,T,st2,f2,W,⟨m0,w0⟩,turn⟩:=h2
 subst e
 -- what stays true of the iterator's objects through the loop
 have stat:∀{H':Hp},(∀b∈fp,H' b=none)->∀b∈fp,FpOk X pins H' b:=λhn b hb=>⟨hn b hb,(f2 b hb).2⟩
 refine codeAny_forLoop_any (λn s'=>∃i σ' H',Inv X pins σ' H' s'/\tn i s'.heap/\(∀b∈fp,H' b=none)/\W i n σ' H') ?_ m0 ⟨0,σ,H2,I2,st2,λb hb=>(f2 b hb).1,w0⟩
 rintro n s3 ⟨i,σ3,H3,I3,st3,fr3,w3⟩
 rcases turn i n σ3 H3 w3 with⟨stop,qn⟩|⟨go,N,hN,step⟩
 ·refine wpAny_passesOwn hp (thn (T.done X rfl rfl rfl hc i pins s3 σ3 H3 X.xe I3 (stat fr3) st3 stop) λr s4 ⟨hr,I4⟩=>?_)
  subst hr
  exact wpAny_execs_nil ⟨σ3,H3,I4,qn⟩
 ·refine wpAny_passesOwn hp (thn (T.item X rfl rfl rfl hc i pins s3 σ3 H3 X.xe I3 (stat fr3) st3 go) λr s4 ⟨u,hr,h4⟩=>?_)
  subst hr
  refine wpAny_passesOwn hp (thn h4 λ_ s5 ⟨x,H5,I5,r5,y5,st5,fr5⟩=>?_)
  have I5':=I5.pinned (stat fr5) (T.obj _ _ st5)
  refine wpAny_passesOwn hp (thn (hg _ s5 σ3 H5 x u _ I5' r5 (step x H5 y5)) λ_ s6 ⟨σ6,H6,I6,q6⟩=>?_)
  refine wpAny_passesOwn hp (thn (hb _ s6 σ6 H6 _ I6 q6) λf s7 q7=>?_)
  have again:∀{σ7:St}{H7:Hp},Inv X (pins++Z8 fp s5.heap) σ7 H7 s7->N σ7 H7->∃m,m<n/\∃i σ' H',Inv X pins σ' H' s7/\tn i s7.heap/\(∀b∈fp,H' b=none)/\W i m σ' H':=λ{σ7 H7} I7 n7=>by
   obtain⟨m',hm,w7⟩:=hN σ7 H7 n7
   refine⟨m',hm,i+1,σ7,H7,I7.Zbu,T.keep _ _ _ st5 λb hb o e=>(I7.pin (b,o) (Yk _ (Yk _ (Zas hb e)))).1,λb hb=>?_,w7⟩
   obtain⟨o,e,d⟩:=T.obj _ _ st5 b hb
   exact(I7.pin (b,o) (Yk _ (Yk _ (Zas hb e)))).2.1
  cases f with
  |next=>obtain⟨σ7,H7,I7,n7⟩:=q7;exact again I7 n7
  |cont=>obtain⟨σ7,H7,I7,n7⟩:=q7;exact again I7 n7
  |brk=>obtain⟨σ7,H7,I7,q7⟩:=q7;exact⟨σ7,H7,I7.Zbu,q7⟩
  |ret v=>obtain⟨x7,σ7,H7,I7,r7,q7⟩:=q7;exact⟨x7,σ7,H7,I7.Zbu,r7,q7⟩
end
theorem Zbd {lo:Int}{n:Nat}{g:TG}{tb:TS}{D:Ends}{σ:St}{H:Hp} (Pv:Nat->St->Hp->Prop) (h0:Pv 0 σ H)
  (hs:∀i σ H,i<n->Pv i σ H->g (.int (lo+i)) σ H fun σ2 H2=>tb {D with nx:=Pv (i+1),ct:=Pv (i+1),bk:=D.nx} σ2 H2) (hd:∀σ H,Pv n σ H->D.nx σ H) :
  ∃W:Nat->Nat->St->Hp->Prop,(∃m,W 0 m σ H)/\∀i m σ H,W i m σ H ->
   ((Itr lo n).stop i H/\D.nx σ H)\/((Itr lo n).go i H/\∃N:St->Hp->Prop,(∀σ' H',N σ' H'->∃m',m'<m/\W (i+1) m' σ' H')/\∀x H',(Itr lo n).yld i H x H'->g x σ H' fun σ2 H2=>tb {D with nx:=N,ct:=N,bk:=D.nx} σ2 H2):=by
 refine⟨λi m σ H=>m=n-i/\i<=n/\Pv i σ H,⟨n,by simp,Yt _,h0⟩,?_⟩
 rintro i m σ H ⟨rfl,hi,p⟩
 by_cases hlt:i<n
 ·refine .inr ⟨hlt,Pv (i+1),fun σ' H' p'=>⟨n-(i+1),by omega,rfl,hlt,p'⟩,λx H' y=>?_⟩
  obtain⟨e,y⟩:=y
  subst e y
  exact hs i σ _ hlt p
 ·have e:i=n:=by omega
  subst e
  exact .inl ⟨Yf _,hd σ H p⟩
noncomputable abbrev R2:=V->V->Hp->VK->Prop
noncomputable def OpR (X:Cx) (f:Value->Value->Sem Value) (r:R2):Prop :=
 ∀(pins:List (Addr×Obj)) (s:Shared) (σ:St) (H:Hp) (x y:V) (v u:Value) (Q:VK),Inv X pins σ H s->RelV x v->RelV y u->r x y H Q ->
  wpAny (model X.prog X.w) X.A (f v u) (EP X pins σ Q) X.xe s
noncomputable def UnR (X:Cx) (f:Value->Sem Value) (r:V->Hp->VK->Prop):Prop :=
 ∀(pins:List (Addr×Obj)) (s:Shared) (σ:St) (H:Hp) (x:V) (v:Value) (Q:VK),Inv X pins σ H s->RelV x v->r x H Q ->
  wpAny (model X.prog X.w) X.A (f v) (EP X pins σ Q) X.xe s
noncomputable def Zb4 (X:Cx) (f:Value) (r:List V->Hp->VK->Prop):Prop :=
 ∀(pins:List (Addr×Obj)) (s:Shared) (σ:St) (H:Hp) (xs:List V) (us:List Value) (Q:VK),Inv X pins σ H s->Vals xs us->r xs H Q ->
  wpAny (model X.prog X.w) X.A (call f us) (EP X pins σ Q) X.xe s
noncomputable def tOp (r:R2) (ta tb:TE):TE:=fun σ H Q=>ta σ H λx H1=>tb σ H1 λy H2=>r x y H2 Q
noncomputable def tUn (r:V->Hp->VK->Prop) (ta:TE):TE:=fun σ H Q=>ta σ H λx H1=>r x H1 Q
noncomputable def rI (C:Int->Int->Prop) (g:Int->Int->V):R2:=λx y H Q=>∃i j,x=.int i/\y=.int j/\C i j/\Q (g i j) H
noncomputable def rI0 (g:Int->Int->V):R2:=λx y H Q=>∃i j,x=.int i/\y=.int j/\Q (g i j) H
noncomputable def rU (g:Int->V):V->Hp->VK->Prop:=λx H Q=>∃i,x=.int i/\Q (g i) H
section
variable {X:Cx}{a b c:Expr}{ta tb tc:TE}{pos:Pos}
theorem binT (ha:PE X a ta) (hb:PE X b tb) {pins:List (Addr×Obj)}{s:Shared}{σ:St}{H:Hp}{R:V->V->Hp->Prop} (I:Inv X pins σ H s)
  (h:ta σ H λx H1=>tb σ H1 λy H2=>R x y H2) {Q:Value->Shared->Prop}{f:Value->Value->Sem Value}
  (hf:∀v u s2 x y H2,Inv X pins σ H2 s2->RelV x v->RelV y u->R x y H2->wpAny (model X.prog X.w) X.A (f v u) Q X.xe s2) :
  wpAny (model X.prog X.w) X.A (eval a X.env) (λv s₁=>wpAny (model X.prog X.w) X.A (eval b X.env) (λu s₂=>wpAny (model X.prog X.w) X.A (f v u) Q X.xe s₂) X.xe s₁) X.xe s:=by
 refine thn (ha pins s σ H _ I h) λv s1 ⟨x,H1,I1,r1,q1⟩=>?_
 refine thn (hb pins s1 σ H1 _ I1 q1) λu s2 ⟨y,H2,I2,r2,q2⟩=>?_
 exact hf v u s2 x y H2 I2 r1 r2 q2
theorem Zs {op:Operator}{r:R2} (ho:OpR X (binaryOp op) r) (ha:PE X a ta) (hb:PE X b tb):PE X (.BinOp a op b pos) (tOp r ta tb):=by
 intro pins s σ H Q I h
 exact wpAny_BinOp (binT ha hb I h λv u s2 x y H2 I2 rx ry q=>ho pins s2 σ H2 x y v u Q I2 rx ry q)
theorem Zd5 {op:UnaryOp}{r:V->Hp->VK->Prop} (ho:UnR X (unaryOp op) r) (ha:PE X a ta):PE X (.UnaryOp op a pos) (tUn r ta):=by
 intro pins s σ H Q I h
 exact UnaryOp_ (thn (ha pins s σ H _ I h) λv s1 ⟨x,H1,I1,r1,q1⟩=>ho pins s1 σ H1 x v Q I1 r1 q1)
theorem opI {f:Value->Value->Sem Value}{C:Int->Int->Prop}{g:Int->Int->Int}
  (rule:∀(i j:Int) (t u:Tok) (s:Shared) (Q:Value->Shared->Prop) (E:Value->Shared->Prop),C i j->Q (.int (g i j) s.toks) {s with toks:=s.toks+1}->wpAny (model X.prog X.w) X.A (f (.int i t) (.int j u)) Q E s) :
  OpR X f (rI C λi j=>.int (g i j)):=by
 intro pins s σ H x y v u Q I rx ry h
 obtain⟨i,j,rfl,rfl,hc,q⟩:=h
 obtain⟨t,rfl⟩:=rx
 obtain⟨t',rfl⟩:=ry
 exact rule i j t t' s _ _ hc ⟨.int (g i j),H,I.tok _,⟨_,rfl⟩,q⟩
theorem opI0 {f:Value->Value->Sem Value}{g:Int->Int->Int}
  (rule:∀(i j:Int) (t u:Tok) (s:Shared) (Q:Value->Shared->Prop) (E:Value->Shared->Prop),Q (.int (g i j) s.toks) {s with toks:=s.toks+1}->wpAny (model X.prog X.w) X.A (f (.int i t) (.int j u)) Q E s) :
  OpR X f (rI0 λi j=>.int (g i j)):=by
 intro pins s σ H x y v u Q I rx ry h
 obtain⟨i,j,rfl,rfl,q⟩:=h
 obtain⟨t,rfl⟩:=rx
 obtain⟨t',rfl⟩:=ry
 exact rule i j t t' s _ _ ⟨.int (g i j),H,I.tok _,⟨_,rfl⟩,q⟩
theorem opB0 {f:Value->Value->Sem Value}{g:Int->Int->Bool}
  (rule:∀(i j:Int) (t u:Tok) (s:Shared) (Q:Value->Shared->Prop) (E:Value->Shared->Prop),Q (.bool (g i j)) s->wpAny (model X.prog X.w) X.A (f (.int i t) (.int j u)) Q E s) :
  OpR X f (rI0 λi j=>.bl (g i j)):=by
 intro pins s σ H x y v u Q I rx ry h
 obtain⟨i,j,rfl,rfl,q⟩:=h
 obtain⟨t,rfl⟩:=rx
 obtain⟨t',rfl⟩:=ry
 exact rule i j t t' s _ _ ⟨.bl (g i j),H,I,rfl,q⟩
noncomputable def Zlu (i j:Int):Prop:=0<=j/\j<=1000000/\i.natAbs<2 ^ 64
theorem Za4:OpR X (binaryOp .Add) (rI0 λi j=>.int (i+j)):=opI0 λ_ _ _ _ _ _ _ q=>add_int q
theorem Zat:OpR X (binaryOp .Sub) (rI0 λi j=>.int (i-j)):=opI0 λ_ _ _ _ _ _ _ q=>sub_int q
theorem Zem:OpR X (binaryOp .Mod) (rI (λ_ j=>0<j) λi j=>.int (i % j)):=opI λi j _ _ _ _ _ hc q=>by
 have h1:(0:Int)<j:=hc
 exact mod_int' (by omega) (by rw[Int.fmod_eq_emod_of_nonneg i (by omega)];exact q)
theorem Zen:OpR X (binaryOp .Pow) (rI Zlu λi j=>.int (i ^ j.toNat)):=opI λ_ _ _ _ _ _ _ hc q=>pow_int_small hc.1 hc.2.1 hc.2.2 q
theorem unI {f:Value->Sem Value}{g:Int->Int}
  (rule:∀(i:Int) (t:Tok) (s:Shared) (Q:Value->Shared->Prop) (E:Value->Shared->Prop),Q (.int (g i) s.toks) {s with toks:=s.toks+1}->wpAny (model X.prog X.w) X.A (f (.int i t)) Q E s) :
  UnR X f (rU λi=>.int (g i)):=by
 intro pins s σ H x v Q I rx h
 obtain⟨i,rfl,q⟩:=h
 obtain⟨t,rfl⟩:=rx
 exact rule i t s _ _ ⟨.int (g i),H,I.tok _,⟨_,rfl⟩,q⟩
theorem Zbw:UnR X (unaryOp .USub) (rU λi=>.int (-i)):=unI λ_ _ _ _ _ q=>neg_int q
end
noncomputable def Zko:V->V->Bool
 |.non,.non=>true|.non,.int _=>true|.int _,.non=>true|.non,.bl _=>true|.bl _,.non=>true|.non,.str _=>true|.str _,.non=>true
 |.int _,.int _=>true|.bl _,.bl _=>true|.str _,.str _=>true|.byt _,.byt _=>true
 |.int _,.str _=>true|.str _,.int _=>true|.bl _,.str _=>true|.str _,.bl _=>true
 |_,_=>false
noncomputable def rEq:R2:=λx y H Q=>Zko x y=true/\Q (.bl (decide (x=y))) H
noncomputable def rNe:R2:=λx y H Q=>Zko x y=true/\Q (.bl (!decide (x=y))) H
theorem Zmp {i j:Int}:decide (V.int i=V.int j)=(i==j):=by
 rw[Bool.eq_iff_iff]
 simp
theorem ZoJ {i j:Bool}:decide (V.bl i=V.bl j)=(i==j):=by
 rw[Bool.eq_iff_iff]
 simp
theorem Zmq {i j:Str}:decide (V.str i=V.str j)=(i==j):=by
 rw[Bool.eq_iff_iff]
 simp
theorem Zmr {i j:Array UInt8}:decide (V.byt i=V.byt j)=(i.toList==j.toList):=by
 rw[Bool.eq_iff_iff]
 cases i
 cases j
 simp
section
variable {X:Cx}{a b c:Expr}{ta tb tc:TE}{pos:Pos}
theorem ZH {pins:List (Addr×Obj)}{σ:St}{H:Hp}{s:Shared}{Q:VK}{k k':Bool} (I:Inv X pins σ H s) (q:Q (.bl k) H) (e:k=k'):EP X pins σ Q (.bool k') s:=by
 subst e
 exact⟨.bl k,H,I,rfl,q⟩
theorem Za5:OpR X (compareOp .Eq) rEq:=by
 intro pins s σ H x y v u Q I rx ry h
 obtain⟨hs,q⟩:=h
 cases x with
 |non =>
  cases rx
  cases y with
  |non=>cases ry;exact PySem.EqNone.eq_none_none (ZH I q (by simp))
  |bl j=>cases ry;exact PySem.EqNone.eq_none_bool (ZH I q (by simp))
  |int j=>obtain⟨t',rfl⟩:=ry;exact PySem.EqNone.eq_none_int (ZH I q (by simp))
  |str j=>obtain⟨t',rfl⟩:=ry;exact PySem.EqNone.eq_none_str (ZH I q (by simp))
  |_=>exact absurd (show false=true from hs) YB
 |bl i =>
  cases rx
  cases y with
  |non=>cases ry;exact PySem.EqNone.eq_bool_none (ZH I q (by simp))
  |bl j=>cases ry;exact eq_bool (ZH I q ZoJ)
  |str j=>obtain⟨t',rfl⟩:=ry;exact PySem.EqMixed.eq_bool_str (ZH I q (by simp))
  |_=>exact absurd (show false=true from hs) YB
 |int i =>
  obtain⟨t,rfl⟩:=rx
  cases y with
  |non=>cases ry;exact PySem.EqNone.eq_int_none (ZH I q (by simp))
  |int j=>obtain⟨t',rfl⟩:=ry;exact eq_int (ZH I q Zmp)
  |str j=>obtain⟨t',rfl⟩:=ry;exact PySem.EqMixed.eq_int_str (ZH I q (by simp))
  |_=>exact absurd (show false=true from hs) YB
 |str i =>
  obtain⟨t,rfl⟩:=rx
  cases y with
  |non=>cases ry;exact PySem.EqNone.eq_str_none (ZH I q (by simp))
  |bl j=>cases ry;exact PySem.EqMixed.eq_str_bool (ZH I q (by simp))
  |int j=>obtain⟨t',rfl⟩:=ry;exact PySem.EqMixed.eq_str_int (ZH I q (by simp))
  |str j=>obtain⟨t',rfl⟩:=ry;exact eq_str (ZH I q Zmq)
  |_=>exact absurd (show false=true from hs) YB
 |byt i =>
  obtain⟨t,rfl⟩:=rx
  cases y with
  |byt j=>obtain⟨t',rfl⟩:=ry;exact PySem.W.eq_bytes (ZH I q Zmr)
  |_=>exact absurd (show false=true from hs) YB
 |_=>cases y<;>exact absurd (show false=true from hs) YB
theorem Zkp:OpR X (compareOp .NotEq) rNe:=by
 intro pins s σ H x y v u Q I rx ry h
 obtain⟨hs,q⟩:=h
 cases x with
 |non =>
  cases rx
  cases y with
  |non=>cases ry;exact PySem.EqNone.ne_none_none (ZH I q (by simp))
  |bl j=>cases ry;exact PySem.EqNone.ne_none_bool (ZH I q (by simp))
  |int j=>obtain⟨t',rfl⟩:=ry;exact PySem.EqNone.ne_none_int (ZH I q (by simp))
  |str j=>obtain⟨t',rfl⟩:=ry;exact PySem.EqNone.ne_none_str (ZH I q (by simp))
  |_=>exact absurd (show false=true from hs) YB
 |bl i =>
  cases rx
  cases y with
  |non=>cases ry;exact PySem.EqNone.ne_bool_none (ZH I q (by simp))
  |bl j=>cases ry;exact ne_bool (ZH I q (congrArg not ZoJ))
  |str j=>obtain⟨t',rfl⟩:=ry;exact PySem.EqMixed.ne_bool_str (ZH I q (by simp))
  |_=>exact absurd (show false=true from hs) YB
 |int i =>
  obtain⟨t,rfl⟩:=rx
  cases y with
  |non=>cases ry;exact PySem.EqNone.ne_int_none (ZH I q (by simp))
  |int j=>obtain⟨t',rfl⟩:=ry;exact ne_int (ZH I q (congrArg not Zmp))
  |str j=>obtain⟨t',rfl⟩:=ry;exact PySem.EqMixed.ne_int_str (ZH I q (by simp))
  |_=>exact absurd (show false=true from hs) YB
 |str i =>
  obtain⟨t,rfl⟩:=rx
  cases y with
  |non=>cases ry;exact PySem.EqNone.ne_str_none (ZH I q (by simp))
  |bl j=>cases ry;exact PySem.EqMixed.ne_str_bool (ZH I q (by simp))
  |int j=>obtain⟨t',rfl⟩:=ry;exact PySem.EqMixed.ne_str_int (ZH I q (by simp))
  |str j=>obtain⟨t',rfl⟩:=ry;exact ne_str (ZH I q (congrArg not Zmq))
  |_=>exact absurd (show false=true from hs) YB
 |byt i =>
  obtain⟨t,rfl⟩:=rx
  cases y with
  |byt j=>obtain⟨t',rfl⟩:=ry;exact PySem.W.ne_bytes (ZH I q (congrArg not Zmr))
  |_=>exact absurd (show false=true from hs) YB
 |_=>cases y<;>exact absurd (show false=true from hs) YB
theorem Zeo:OpR X (compareOp .Lt) (rI0 λi j=>.bl (decide (i<j))):=opB0 λ_ _ _ _ _ _ _ q=>lt_int q
theorem Zi2:OpR X (compareOp .LtE) (rI0 λi j=>.bl (decide (i<=j))):=opB0 λ_ _ _ _ _ _ _ q=>le_int q
theorem Zd6:OpR X (compareOp .Gt) (rI0 λi j=>.bl (decide (j<i))):=opB0 λ_ _ _ _ _ _ _ q=>gt_int q
theorem ZoK:OpR X (compareOp .GtE) (rI0 λi j=>.bl (decide (j<=i))):=opB0 λ_ _ _ _ _ _ _ q=>ge_int q
theorem ZoL:OpR X (compareOp .Is) (λx y H Q=>y=.non/\Q (.bl (decide (x=.non))) H):=by
 intro pins s σ H x y v u Q I rx ry h
 obtain⟨rfl,q⟩:=h
 cases ry
 refine is_none_gen (ZH I q ?_)
 cases x<;>first
  |(cases rx;rfl)
  |(obtain⟨t,rfl⟩:=rx;rfl)
theorem Zrk:OpR X (compareOp .IsNot) (λx y H Q=>y=.non/\Q (.bl (!decide (x=.non))) H):=by
 intro pins s σ H x y v u Q I rx ry h
 obtain⟨rfl,q⟩:=h
 cases ry
 refine isnot_none_gen (ZH I q ?_)
 cases x<;>first
  |(cases rx;rfl)
  |(obtain⟨t,rfl⟩:=rx;rfl)
theorem Zo (b:Expr) {op:CmpOp} (h:op≠.In:=by decide) (h2:op≠.NotIn:=by decide):behindInMarks op b=false:=by
 have e1:(op==CmpOp.In)=false:=by cases op<;>first|rfl|exact absurd rfl h
 have e2:(op==CmpOp.NotIn)=false:=by cases op<;>first|rfl|exact absurd rfl h2
 cases b<;>simp[behindInMarks,e1,e2]
theorem ZaN {op:CmpOp}{r:R2} (ho:OpR X (compareOp op) r) (ha:PE X a ta) (hb:PE X b tb) (hm:behindInMarks op b=false):PE X (.Compare a [op] [b] pos) (tOp r ta tb):=by
 intro pins s σ H Q I h
 exact wpAny_Compare1 (binT ha hb I h λv u s2 x y H2 I2 rx ry q=>ho pins s2 σ H2 x y v u Q I2 rx ry q) hm
noncomputable def Zkq (t:TE):TT:=fun σ H Q=>t σ H λx H'=>∃k,x=.bl k/\Q k H'
theorem Zn {op:CmpOp}{r:R2} (ho:OpR X (compareOp op) r) (ha:PE X a ta) (hb:PE X b tb) (hm:behindInMarks op b=false):PT X (.Compare a [op] [b] pos) (Zkq (tOp r ta tb)):=by
 intro pins s σ H Q I h
 refine wpAny_isTrue_Compare1 (thn (ha pins s σ H _ I h) λv s1 ⟨x,H1,I1,r1,q1⟩=>thn (hb pins s1 σ H1 _ I1 q1) λu s2 ⟨y,H2,I2,r2,q2⟩ =>
  thn (ho pins s2 σ H2 x y v u _ I2 r1 r2 q2) λc s3 ⟨z,H3,I3,r3,k,e,q3⟩=>?_) hm
 subst e
 cases r3
 exact wpAny_truthy_bool ⟨H3,I3,q3⟩
noncomputable def Zjv (r r':R2) (ta tb tc:TE):TE:=fun σ H Q=>ta σ H λx H1=>tb σ H1 λy H2=>r x y H2 λz H3=>∃k,z=.bl k /\
 (if k=true then tc σ H3 λw' H4=>r' y w' H4 Q else Q (.bl false) H3)
theorem Zkr {op op':CmpOp}{r r':R2} (ho:OpR X (compareOp op) r) (ho':OpR X (compareOp op') r') (ha:PE X a ta) (hb:PE X b tb) (hc:PE X c tc)
  (hm:lastMarks [op,op'] [b,c]=false:=by with_unfolding_all rfl):PE X (.Compare a [op,op'] [b,c] pos) (Zjv r r' ta tb tc):=by
 intro pins s σ H Q I h
 refine Compare_chain (thn (ha pins s σ H _ I h) λv s1 ⟨x,H1,I1,r1,q1⟩=>chain_link (thn (hb pins s1 σ H1 _ I1 q1) λu s2 ⟨y,H2,I2,r2,q2⟩ =>
  thn (ho pins s2 σ H2 x y v u _ I2 r1 r2 q2) λd s3 ⟨z,H3,I3,r3,k,e,q3⟩=>?_)) hm
 subst e
 cases r3
 refine wpAny_truthy_bool ?_
 cases k with
 |false=>exact ite_ff ⟨.bl false,H3,I3,rfl,q3⟩
 |true=>exact ite_tt (chain_last (thn (hc pins s3 σ H3 _ I3 q3) λw' s4 ⟨z',H4,I4,r4,q4⟩=>ho' pins s4 σ H4 y z' u w' Q I4 r2 r4 q4))
theorem Zks {op op':CmpOp}{r r':R2} (ho:OpR X (compareOp op) r) (ho':OpR X (compareOp op') r') (ha:PE X a ta) (hb:PE X b tb) (hc:PE X c tc)
  (hm:lastMarks [op,op'] [b,c]=false:=by with_unfolding_all rfl):PT X (.Compare a [op,op'] [b,c] pos) (Zkq (Zjv r r' ta tb tc)):=by
 intro pins s σ H Q I h
 refine isTrue_chain (thn (ha pins s σ H _ I h) λv s1 ⟨x,H1,I1,r1,q1⟩=>test_link (thn (hb pins s1 σ H1 _ I1 q1) λu s2 ⟨y,H2,I2,r2,q2⟩ =>
  thn (ho pins s2 σ H2 x y v u _ I2 r1 r2 q2) λd s3 ⟨z,H3,I3,r3,k,e,q3⟩=>?_)) hm
 subst e
 cases r3
 refine wpAny_truthy_bool ?_
 cases k with
 |false =>
  obtain⟨k',e',q'⟩:=q3
  cases e'
  exact ite_ff ⟨H3,I3,q'⟩
 |true =>
  refine ite_tt (test_last (thn (hc pins s3 σ H3 _ I3 q3) λw' s4 ⟨z',H4,I4,r4,q4⟩=>thn (ho' pins s4 σ H4 y z' u w' _ I4 r2 r4 q4) λd' s5 ⟨z2,H5,I5,r5,k2,e2,q5⟩=>?_))
  subst e2
  cases r5
  exact wpAny_truthy_bool ⟨H5,I5,q5⟩
theorem Zjw:(sizeLine:Nat)<2 ^ 63:=by rw[sizeLine_eq];decide
theorem vals1 {x:V}{us:List Value} (r:Vals [x] us):∃u,us=[u]/\RelV x u:=by
 cases r with
 |cons r1 r2=>cases r2;exact⟨_,rfl,r1⟩
theorem vals2 {x y:V}{us:List Value} (r:Vals [x,y] us):∃u w',us=[u,w']/\RelV x u/\RelV y w':=by
 cases r with
 |cons r1 r2 =>
  cases r2 with
  |cons r3 r4=>cases r4;exact⟨_,_,rfl,r1,r3⟩
theorem ZoM:Zb4 X (.builtin "abs") (λxs H Q=>∃i,xs=[.int i]/\Q (.int (if i<0 then -i else i)) H):=by
 intro pins s σ H xs us Q I r h
 obtain⟨i,rfl,q⟩:=h
 obtain⟨u,rfl,t,rfl⟩:=vals1 r
 exact call_abs_int λu tk=>⟨.int (if i<0 then -i else i),H,I.tok _,⟨_,rfl⟩,q⟩
theorem ZeZ (hc:X.calm=true):Zb4 X (.builtin "max") (λxs H Q=>∃i j,xs=[.int i,.int j]/\Q (.int (if j>i then j else i)) H):=by
 intro pins s σ H xs us Q I r h
 obtain⟨i,j,rfl,q⟩:=h
 obtain⟨u,w',rfl,⟨t,rfl⟩,⟨t',rfl⟩⟩:=vals2 r
 refine max_two_ints (I.ok.hd hc) λh' tk k=>⟨_,H,I.kept k,?_,q⟩
 by_cases hj:j>i
 ·rw[Yd hj,Yd hj];exact⟨_,rfl⟩
 ·rw[Yb hj,Yb hj];exact⟨_,rfl⟩
theorem Zi3 (hc:X.calm=true):Zb4 X (.builtin "min") (λxs H Q=>∃i j,xs=[.int i,.int j]/\Q (.int (if j<i then j else i)) H):=by
 intro pins s σ H xs us Q I r h
 obtain⟨i,j,rfl,q⟩:=h
 obtain⟨u,w',rfl,⟨t,rfl⟩,⟨t',rfl⟩⟩:=vals2 r
 refine min_two_ints (I.ok.hd hc) λh' tk k=>⟨_,H,I.kept k,?_,q⟩
 by_cases hj:j<i
 ·rw[Yd hj,Yd hj];exact⟨_,rfl⟩
 ·rw[Yb hj,Yb hj];exact⟨_,rfl⟩
end
structure ObjM (h:Heap) (x dx C:Addr) (mA:Str->Option Value):Prop where
 obj:h.get? x=some (PySem.W.instObj C dx)
 ns:h.Ns1 dx mA
 ne:dx≠x
theorem Zm4 {h:Heap}{dx:Addr}{mA:Str->Option Value} (n:h.Ns1 dx mA):∃od,h.get? dx=some od/\∀name,PySem.W.lookIn name od=some (mA name):=by
 obtain⟨o,es,ep,ho,hd,hk,_,hm⟩:=n
 refine⟨o,ho,λname=>?_⟩
 have e:=hm name
 unfold nsFind findBy at e
 rw[<-Array.find?_toList]at e
 unfold PySem.W.lookIn
 rw[hd]
 dsimp only
 split
 ·rename_i y q
  rw[q]at e
  exact congrArg some e
 ·rename_i q
  rw[q]at e
  have a:es.toList.any (·.refKey)=false:=by
   rw[List.any_eq_false]
   intro y hy
   obtain⟨z,t,hkey⟩:=hk y (Array.mem_toList_iff.mp hy)
   simp[DictEntry.refKey,hkey]
  have a':¬ es.toList.any (·.refKey)=true:=by rw[a];exact YB
  rw[Yb a']
  exact congrArg some e
theorem ObjM.look {h:Heap}{x dx C:Addr}{mA:Str->Option Value} (I:ObjM h x dx C mA):∃od,PySem.W.InstAt h x (PySem.W.instObj C dx) C (some od)/\∀name,PySem.W.lookIn name od=some (mA name) :=
 let ⟨od,ho,hl⟩:=Zm4 I.ns
 ⟨od,⟨I.obj,rfl,rfl,ho⟩,hl⟩
noncomputable def putF (f:Str) (v:V):List (Str×V)->List (Str×V)
 |[]=>[(f,v)]
 |(g,x)::r=>if g=f then (g,v)::r else (g,x)::putF f v r
section
variable {P:Program}{w:World}{H H':Hp}{h h':Heap}{a C dx:Addr}{fs fs':List (Str×V)}
theorem Zrl (hok:HOk P w H h) (e:H a=some (.ins C dx fs)):∃mA,ObjM h a dx C mA/\(∀f,RelO (fs.lookup f) (mA f))/\PySem.Within mA (fs.map (·.1))/\fs.length<=1000/\H dx=some (.own a):=by
 obtain⟨d,z,ne,ob,mA,n,r,q⟩:=(show Zaf P w H h a (.ins C dx fs)from hok a _ e)
 exact⟨mA,⟨ob,n,ne⟩,r,q,z,d⟩
end
structure Cls (K:PySem.W.Frag) (C:Addr):Prop where
 pg:PySem.W.plainGet K C Str.empty=true
 hd:PySem.W.hasDictIn K C=true
 po:PySem.W.plainOver K C=true
 sa:PySem.W.findIn K (.ref C) "__setattr__"=some (some (.builtin "object.__setattr__"))
theorem Cls.get {K:PySem.W.Frag}{C:Addr} (c:Cls K C) (f:Str):PySem.W.plainGet K C f=true:=c.pg
section
variable {X:Cx}{pins:List (Addr×Obj)}{σ:St}{H:Hp}{s:Shared}{A:Around}{E:Value->Shared->Prop}{Q:Value->Shared->Prop}{c:Value}{b:Bool}
inductive TyOf (K:PySem.W.Frag) (H:Hp):V->Value->Prop where
 |non:TyOf K H .non (.type "NoneType")
 |bl (x:Bool):TyOf K H (.bl x) (.type "bool")
 |int (i:Int):TyOf K H (.int i) (.type "int")
 |str (x:Str):TyOf K H (.str x) (.type "str")
 |flt (x:UInt64):TyOf K H (.flt x) (.type "float")
 |lst {a:Addr}{xs:List V} (e:H a=some (.lst xs)):TyOf K H (.ref a) (.type "list")
 |frz {a:Addr}{o:Obj}{xs:List V} (e:H a=some (.frz o (.lst xs))):TyOf K H (.ref a) (.type "list")
 |tup {a:Addr}{xs:List V} (e:H a=some (.tup xs)):TyOf K H (.ref a) (.type "tuple")
 |dK {a:Addr}{kvs:List (Key×V)} (e:H a=some (.dK kvs)):TyOf K H (.ref a) (.type "dict")
 |dT {a:Addr}{kvs:List (List Key×V)} (e:H a=some (.dT kvs)):TyOf K H (.ref a) (.type "dict")
 |ins {a C dx:Addr}{fs:List (Str×V)} (e:H a=some (.ins C dx fs)) (cl:Cls K C) (ha:PySem.W.findIn K (.ref C) "__class__"=some (some (.builtin "object.__class__")))
   (hn:PySem.W.specialIn K (.builtin "object.__class__") "__get__"=some (some (.builtin "getset_descriptor.__get__"))) (htk:PySem.W.takesIn K (.builtin "object.__class__")=some true)
   (hm:PySem.W.mroIn K C (.type "object")=some true):TyOf K H (.ref a) (.ref C)
theorem Zm5 {x:V}{u t:Value} (I:Inv X pins σ H s) (rx:RelV x u) (ty:TyOf X.K H x t) (e:PySem.W.kitOne X.K t c=some b) (h:∀tk,Q (.bool b) {s with toks:=tk}) :
  wpAny (model X.prog X.w) A (call (.builtin "isinstance") [u,c]) Q E s:=by
 cases ty with
 |non=>cases(show u=Value.none from rx);exact PySem.W.kia_one PySem.W.kitx_none I.kIn True.intro e (λz=>nomatch z) h
 |bl y=>cases(show u=Value.bool y from rx);exact PySem.W.kia_one PySem.W.kitx_bool I.kIn True.intro e (λz=>nomatch z) h
 |int i=>obtain⟨t,q⟩:=(show ∃t,u=Value.int i t from rx);cases q;exact PySem.W.kia_one PySem.W.kitx_int I.kIn True.intro e (λz=>nomatch z) h
 |str y=>obtain⟨t,q⟩:=(show ∃t,u=Value.str y t from rx);cases q;exact PySem.W.kia_one PySem.W.kitx_str I.kIn True.intro e (λz=>nomatch z) h
 |flt y=>obtain⟨t,q⟩:=(show ∃t,u=Value.float y t from rx);cases q;exact PySem.W.kia_one PySem.W.kitx_float I.kIn True.intro e (λz=>nomatch z) h
 |@lst a xs ea =>
  cases(show u=Value.ref a from rx)
  obtain⟨_,_,n,_,h1⟩:=(show Zaf X.prog X.w H s.heap a (.lst xs)from I.hok a _ ea)
  exact PySem.W.kia_one PySem.W.kitx_list I.kIn ⟨_,h1,rfl⟩ e (λz=>nomatch z) h
 |@frz a ob xs ea =>
  cases(show u=Value.ref a from rx)
  obtain⟨_,_,_,n,_,h1⟩:=(show Zaf X.prog X.w H s.heap a (.frz ob (.lst xs))from I.hok a _ ea)
  exact PySem.W.kia_one PySem.W.kitx_list I.kIn ⟨_,h1,rfl⟩ e (λz=>nomatch z) h
 |@tup a xs ea =>
  cases(show u=Value.ref a from rx)
  obtain⟨_,_,_,p⟩:=(show Zaf X.prog X.w H s.heap a (.tup xs)from I.hok a _ ea)
  obtain⟨o,h1,h2,_⟩:=p
  exact PySem.W.kia_one PySem.W.kitx_tuple I.kIn ⟨o,h1,h2⟩ e (λz=>nomatch z) h
 |@dK a kvs ea =>
  cases(show u=Value.ref a from rx)
  obtain⟨_,_,vs,_,p⟩:=(show Zaf X.prog X.w H s.heap a (.dK kvs)from I.hok a _ ea)
  obtain⟨o,es,ep,h1,h2,_⟩:=p
  exact PySem.W.kia_one PySem.W.kitx_dict I.kIn ⟨o,h1,h2.1⟩ e (λz=>nomatch z) h
 |@dT a kvs ea =>
  cases(show u=Value.ref a from rx)
  obtain⟨_,_,xs,_,o,es,ep,h1,h2,_⟩:=(show Zaf X.prog X.w H s.heap a (.dT kvs)from I.hok a _ ea)
  exact PySem.W.kia_one PySem.W.kitx_dict I.kIn ⟨o,h1,h2.1⟩ e (λz=>nomatch z) h
 |@ins a C dx fs ea cl ha hn htk hm =>
  cases(show u=Value.ref a from rx)
  obtain⟨mA,O,_⟩:=Zrl I.hok ea
  obtain⟨od,J,_⟩:=O.look
  exact PySem.W.kia_one (PySem.W.kitx_own (cl.get _) cl.hd ha hn htk hm) I.kIn J e (λz=>nomatch z) h
end
structure Room (k:Nat) (A:Around):Prop where
 hd:A.handled=none
 dp:A.depth+3*k+5<recursionLimit
 un:A.units+16*k+200<cLine
theorem Room.mono {j k:Nat}{A:Around} (r:Room k A) (h:j<=k):Room j A:=⟨r.hd,by have:=r.dp;omega,by have:=r.un;omega⟩
theorem Room.deeper {k:Nat}{A:Around} (r:Room (k+1) A) (env:Env):Room k (A.deeper env) :=
 ⟨r.hd,by have:=r.dp;show A.depth+1+3*k+5 < _;omega,by have:=r.un;show A.units+3+16*k+200 < _;omega⟩
theorem Room.in1 {k:Nat}{A:Around} (r:Room (k+1) A):Room k A.in1 :=
 ⟨r.hd,by have:=r.dp;show A.depth+3*k+5 < _;omega,by have:=r.un;show A.units+1+16*k+200 < _;omega⟩
theorem Room.depth {k:Nat}{A:Around} (r:Room k A):A.depth<recursionLimit:=by have:=r.dp;omega
noncomputable def tNil:TA:=λ_ H Q=>Q [] H
noncomputable def Zms (ta:TE) (tr:TA):TA:=fun σ H Q=>ta σ H λx H1=>tr σ H1 λxs H2=>Q (x::xs) H2
section
variable {X:Cx}{e:Expr}{es:List Expr}{te:TE}{t:TA}{pos:Pos}
theorem Zb:PA X [] tNil:=λ_ _ _ _ H Q I h=>Calls.spliced_nil ⟨[],H,I,.nil,h⟩
theorem Za (ha:PE X e te) (hr:PA X es t) (hs:starEach (e::es) X.env=(false,eval e X.env)::starEach es X.env:=by rfl):PA X (e::es) (Zms te t):=by
 intro pos pins s σ H Q I h
 rw[hs]
 show wpAny _ _ (spliced ((false,eval e X.env)::backTo pos (starEach es X.env))) _ _ s
 refine Calls.spliced_cons (thn (ha pins s σ H _ I h) λu s1 ⟨x,H1,I1,r1,q1⟩=>?_)
 exact thn (hr pos pins s1 σ H1 _ I1 q1) λus s2 ⟨xs,H2,I2,r2,q2⟩=>⟨x::xs,H2,I2,.cons r1 r2,q2⟩
noncomputable def tTup (t:TA):TE:=fun σ H Q=>t σ H λxs H1=>xs.length<=sizeLine/\∀p,H1 p=none->Q (.ref p) (upd H1 p (.tup xs))
noncomputable def tLst (t:TA):TE:=fun σ H Q=>t σ H λxs H1=>xs.length<=sizeLine/\∀p,H1 p=none->Q (.ref p) (upd H1 p (.lst xs))
theorem Zbx {x1} (h:PA X es t):PE X (.Tuple es x1 pos) (tTup t):=by
 intro pins s σ H Q I hq
 refine wpAny_Tuple_spliced (thn (h pos pins s σ H _ I hq) λus s1 ⟨xs,H1,I1,r,z,q⟩=>⟨by rw[<-r.length];exact z,?_⟩)
 have hf:H1 s1.heap.objs.size=none:=I1.hok.fresh (Yf _)
 refine⟨.ref s1.heap.objs.size,upd H1 s1.heap.objs.size (.tup xs),I1.laid (t':=s1.toks) (λb u e=>Yi _ e) (Yf _) ?_,rfl,q _ hf⟩
 exact⟨z,us,r,⟨_,Yv _ rfl,rfl,_,rfl⟩⟩
theorem ZaJ (h:PA X es t):PE X (.List es pos) (tLst t):=by
 intro pins s σ H Q I hq
 refine wpAny_List_spliced (thn (h pos pins s σ H _ I hq) λus s1 ⟨xs,H1,I1,r,z,q⟩=>⟨by rw[<-r.length];exact z,?_⟩)
 have hf:H1 s1.heap.objs.size=none:=I1.hok.fresh (Yf _)
 refine⟨.ref s1.heap.objs.size,upd H1 s1.heap.objs.size (.lst xs),I1.laid (t':=s1.toks) (λb u e=>Yi _ e) (Yf _) ?_,rfl,q _ hf⟩
 exact⟨z,us,0,r,Yv _ rfl⟩
end
noncomputable abbrev Sp:=List V->Hp->VK->XK->Prop
noncomputable abbrev CXT:=List Env->Hp->Shared->XK->Value->Shared->Prop
structure Env0 (P:Program) (w:World) (K:PySem.W.Frag) (mg:Str->Option Value) (base:Heap) (A:Around) (outer:List Env) (s:Shared) (H:Hp):Prop where
 frames:A.frames=some outer
 mod:Mod K mg base
 bs:∀b o,base.get? b=some o->s.heap.get? b=some o/\H b=none
 bsz:base.objs.size<=s.heap.objs.size
 funs:s.heap.FunFrames base outer
 frf:∀b∈frs outer,H b=none
 hok:HOk P w H s.heap
 bare:AllBare s.gens
noncomputable def CE (outer:List Env) (P:Program) (w:World) (H:Hp) (s:Shared) (Q:VK) (u:Value) (s':Shared):Prop :=
 ∃v H',s'.os=s.os/\AllBare s'.gens/\Un (frs outer) [] H H' s.heap s'.heap/\HOk P w H' s'.heap/\RelV v u/\Q v H'
noncomputable def CR (CX:CXT) (outer:List Env) (P:Program) (w:World) (H:Hp) (s:Shared) (Q:VK) (E:XK) (r:Result) (s':Shared):Prop :=
 match r with
 |.ok (.ret u)=>CE outer P w H s Q u s'
 |.ok _=>False
 |.error e=>CX outer H s E e s'
structure FnOk (P:Program) (w:World) (K:PySem.W.Frag) (mg:Str->Option Value) (base:Heap) (CX:CXT) (k:Nat) (f:Addr) (fd:FuncData) (ps:List Str) (sp:Sp):Prop where
 len:∀vs H Q E,sp vs H Q E->vs.length=ps.length
 run:∀(A:Around) (outer:List Env) (s:Shared) (H:Hp) (args:Args) (us:List Value) (vs:List V) (Q:VK) (E:XK),Room k A->Env0 P w K mg base A outer s H->BindsTo s fd args (ps.zip us)->Vals vs us->sp vs H Q E ->
  codeAny (model P w) A (.call (.ref f) args) (CR CX outer P w H s Q E) s
section
variable {X:Cx}{pins:List (Addr×Obj)}{σ:St}{H:Hp}{s s':Shared}
theorem Inv.env0 (I:Inv X pins σ H s):Env0 X.prog X.w X.K X.mg X.base X.A X.stack s H :=
 ⟨I.ok.frames,I.ok.mod,I.bs,Yn I.ok.bsz I.sz,I.stack,I.ZfR,I.hok,I.bare⟩
theorem Inv.after {Q:VK}{u:Value} (I:Inv X pins σ H s) (h:CE X.stack X.prog X.w H s Q u s'):EP X pins σ Q u s':=by
 obtain⟨v,H',os,bare,un,hok,r,q⟩:=h
 obtain⟨hh,g,d,t,os'⟩:=s'
 obtain rfl:os'=s.os:=os
 exact⟨v,H',I.call (h':=hh) (g':=g) (d':=d) (t':=t) (ch:=[]) un hok bare (λb z=>absurd z (by simp)),r,q⟩
end
noncomputable def Zmt (sp:Sp) (dvs:List V) (E:XK) (t:TA):TE:=fun σ H Q=>t σ H λvs H1=>sp (vs++dvs) H1 Q E
noncomputable def Binds (K:PySem.W.Frag) (fd:FuncData) (ps:List Str) (ds:List Value):Prop :=
 ∀(s:Shared) (us:List Value),K.In s.heap->(us++ds).length=ps.length->BindsTo s fd ⟨us,[]⟩ (ps.zip (us++ds))
theorem Binds.all {K:PySem.W.Frag}{fd:FuncData}{ps:List Str} (h:∀us:List Value,us.length=ps.length->bindArgs fd ⟨us,[]⟩=pure (ps.zip us)):Binds K fd ps []:=λs us _ hl=>by
 rw[List.append_nil]at hl⊢
 exact .of_eq (h us hl)
noncomputable def Passes (CX:CXT) (X:Cx) (E:XK):Prop:=∀(pins:List (Addr×Obj)) (σ:St) (H:Hp) (s:Shared) (e:Value) (s':Shared),Inv X pins σ H s->CX X.stack H s E e s'->X.xe e s'
section
variable {X:Cx}{CX:CXT}{k:Nat}{f C:Addr}{fd:FuncData}{ps:List Str}{sp:Sp}{dvs:List V}{ds:List Value}{E:XK}{x m:Str}{p pos apos:Pos}{e o:Expr}{es:List Expr}{ta:TE}{t:TA}
theorem run_fn {pins:List (Addr×Obj)}{σ:St}{H:Hp}{s:Shared}{Q:VK}{us:List Value}{vs:List V} (F:FnOk X.prog X.w X.K X.mg X.base CX k f fd ps sp) (hr:Room k X.A) (hb:Binds X.K fd ps ds) (hd:Vals dvs ds) (hx:Passes CX X E)
  (I:Inv X pins σ H s) (r:Vals vs us) (h:sp (vs++dvs) H Q E):wpAny (model X.prog X.w) X.A (call (.ref f) us) (EP X pins σ Q) X.xe s:=by
 have r2:Vals (vs++dvs) (us++ds):=r.append hd
 have hl:(us++ds).length=ps.length:=by rw[<-r2.length];exact F.len _ _ _ _ h
 refine wpAny_call (codeAny_mono (F.run X.A X.stack s H ⟨us,[]⟩ (us++ds) (vs++dvs) Q E hr I.env0 (hb s us I.kIn hl) r2 h) λr s' hq=>?_)
 cases r with
 |error e=>exact hx pins σ H s e s' I hq
 |ok fl =>
  cases fl with
  |ret u=>exact I.after hq
  |next=>exact False.elim hq
  |brk=>exact False.elim hq
  |cont=>exact False.elim hq
theorem Zrm (F:FnOk X.prog X.w X.K X.mg X.base CX k f fd ps sp) (hr:Room k X.A) (hg:Gl X x) (hm:X.mg x=some (.ref f)) (hk:PySem.W.keepIn X.K (.ref f)=true) (hb:Binds X.K fd ps ds) (hd:Vals dvs ds) (hx:Passes CX X E)
  (ha:PA X (e::es) t) (hdb:(x==("__debug__":Str))=false:=by decide) (he:starEach (e::es) X.env=(false,eval e X.env)::starEach es X.env:=by rfl) (hpl:(backTo pos (starEach es X.env)).any (·.1)=false:=by rfl) :
  PE X (.Call (.Name x p) (e::es) [] pos) (Zmt sp dvs E t):=by
 intro pins s σ H Q I h
 refine wpAny_Call_Name_kw (ZfS I hg hm ?_ hdb)
 refine PySem.W.callWith_K (h₀:=X.base) I.ok.mod.kin hk (thn (ha pos pins s σ H _ I h) λus s1 ⟨vs,H1,I1,r,q⟩=>⟨I1.kIn,?_⟩) he hpl
 exact run_fn F hr hb hd hx I1 r q
end
noncomputable def PK (X:Cx) (kws:List Keyword) (t:TA):Prop :=
 ∀(pos:Pos) (pins:List (Addr×Obj)) (s:Shared) (σ:St) (H:Hp) (Q:List V->Hp->Prop),Inv X pins σ H s->t σ H Q->wpAny (model X.prog X.w) X.A (evalAll ((backToKw pos (keywordEach kws X.env)).map (·.2))) (AP X pins σ Q) X.xe s
section
variable {X:Cx}{CX:CXT}{k:Nat}{f C:Addr}{fd:FuncData}{ps ks:List Str}{sp:Sp}{E:XK}{x m:Str}{p pos apos kpos:Pos}{e o:Expr}{es:List Expr}{kws:List Keyword}{te ta:TE}{t tk:TA}{nm:Option Str}
theorem ZoN:PK X [] tNil:=λ_ _ _ _ H Q I h=>wpAny_evalAll_nil ⟨[],H,I,.nil,h⟩
theorem Zhu (ha:PE X e te) (hr:PK X kws t):PK X (⟨nm,e,kpos⟩::kws) (Zms te t):=by
 intro pos pins s σ H Q I h
 show wpAny _ _ (evalAll ((do let v <-eval e X.env;standAt pos;pure v)::(backToKw pos (keywordEach kws X.env)).map (·.2))) _ _ s
 refine wpAny_evalAll_cons (Ya (thn (ha pins s σ H _ I h) λu s1 ⟨x,H1,I1,r1,q1⟩=>Ya (wpAny_standAt (Yc ?_))))
 exact thn (hr pos pins s1 σ H1 _ I1 q1) λus s2 ⟨xs,H2,I2,r2,q2⟩=>⟨x::xs,H2,I2,.cons r1 r2,q2⟩
variable {g:List Value->List Value->List Value}{gV:List V->List V->List V}
end
structure FnScope (N P:List Str) (sc:Scope):Prop where
 kind:sc.kind=.function
 co:sc.isCoroutine=false
 gen:sc.isGenerator=false
 nd:N.Nodup
 pre:N.take P.length=P
 par:∀x∈P,sc.names.lookup x=some .local\/sc.names.lookup x=some .cell
 nofree:∀y∈sc.names,y.2≠.free
theorem Zi4 {kindOf:Str->Option NameKind}{x:Str}:∀{binds:List (Str×Value)}{m:Str->Option Value},(∀v,(x,v)∉binds)->bindL kindOf binds m x=m x
 |[],_,_=>rfl
 |(n,v)::r,m,h=>by
  unfold bindL
  rw[Zi4 λw hw=>h w (Yz _ hw)]
  split
  ·have:x≠n:=by rintro rfl;exact h v Yx
   simp[this]
  ·rfl
theorem Zi5 {kindOf:Str->Option NameKind}{x:Str}:∀{binds:List (Str×Value)}{m:Str->Option Value},(∀v,(x,v)∉binds)->bindC kindOf binds m x=m x
 |[],_,_=>rfl
 |(n,v)::r,m,h=>by
  unfold bindC
  rw[Zi5 λw hw=>h w (Yz _ hw)]
  split
  ·rfl
  ·have:x≠n:=by rintro rfl;exact h v Yx
   simp[this]
theorem Zi6 {kindOf:Str->Option NameKind}{x:Str}{v:Value}:∀{P:List Str}{vs:List Value}{i:Nat}{m:Str->Option Value},P.Nodup->P[i]?=some x->vs[i]?=some v->kindOf x=some .local ->
  bindL kindOf (P.zip vs) m x=some v
 |[],_,_,_,_,h,_,_=>by simp at h
 |_::_,[],_,_,_,_,h,_=>by simp at h
 |p::P,w::vs,0,m,nd,h1,h2,hk=>by
  simp at h1 h2;subst h1;subst h2
  show bindL kindOf ((p,w)::P.zip vs) m p=_
  unfold bindL
  rw[Zi4 λv hv=>(List.nodup_cons.mp nd).1 (List.of_mem_zip hv).1,Yd hk]
  simp
 |p::P,w::vs,i+1,m,nd,h1,h2,hk=>by
  show bindL kindOf ((p,w)::P.zip vs) m x=_
  unfold bindL
  exact Zi6 (i:=i) (List.nodup_cons.mp nd).2 (by simpa using h1) (by simpa using h2) hk
theorem Zi7 {kindOf:Str->Option NameKind}{x:Str}{v:Value}:∀{P:List Str}{vs:List Value}{i:Nat}{m:Str->Option Value},P.Nodup->P[i]?=some x->vs[i]?=some v->kindOf x≠some .local ->
  bindC kindOf (P.zip vs) m x=some v
 |[],_,_,_,_,h,_,_=>by simp at h
 |_::_,[],_,_,_,_,h,_=>by simp at h
 |p::P,w::vs,0,m,nd,h1,h2,hk=>by
  simp at h1 h2;subst h1;subst h2
  show bindC kindOf ((p,w)::P.zip vs) m p=_
  unfold bindC
  rw[Zi5 λv hv=>(List.nodup_cons.mp nd).1 (List.of_mem_zip hv).1,Yb hk]
  simp
 |p::P,w::vs,i+1,m,nd,h1,h2,hk=>by
  show bindC kindOf ((p,w)::P.zip vs) m x=_
  unfold bindC
  exact Zi7 (i:=i) (List.nodup_cons.mp nd).2 (by simpa using h1) (by simpa using h2) hk
noncomputable def start (N:List Str) (vs:List V):St:=vs.map some++List.replicate (N.length-vs.length) none
noncomputable def ZfT (CX:CXT) (P:Program) (w:World) (K:PySem.W.Frag) (mg:Str->Option Value) (base:Heap) (N:List Str) (qual:Str) (scope:Scope) (f:Addr) (cd:Value) (A:Around) (outer:List Env) (s:Shared) (H:Hp) (E:XK):Cx where
 prog:=P
 w:=w
 K:=K
 mg:=mg
 base:=base
 A:=A.deeper (envOfC qual scope s.heap.objs.size f cd)
 N:=N
 s₀:=s
 H₀:=H
 env:=envOfC qual scope s.heap.objs.size f cd
 outer:=outer
 stack:=envOfC qual scope s.heap.objs.size f cd::outer
 ex:=[]
 calm:=true
 fn:=λ_=>true
 pn:=[]
 xe:=λe s'=>wpAny (model P w) (A.deeper (envOfC qual scope s.heap.objs.size f cd)) (leaving (envOfC qual scope s.heap.objs.size f cd) e) (λ_ s''=>CX outer H s E e s'') (λe' s''=>CX outer H s E e' s'') s'
theorem Zkt {sc:Scope}{n:Nat}{x:Str} (h:sc.names.lookup x=some .cell):∃c,(cellsFrom n sc.names []).lookup x=some c:=by
 have q:=PySem.W.cellsFrom_some sc.names n [] (.inl h)
 exact Option.isSome_iff_exists.mp q
theorem Zm6 {CX:CXT}{P:Program}{w:World}{K:PySem.W.Frag}{mg:Str->Option Value}{base:Heap}{N ps:List Str}{qual:Str}{scope:Scope}{f:Addr}{cd:Value}{A:Around}{outer:List Env}{s s1:Shared}{H:Hp}{E:XK}{us:List Value}{vs:List V}
  (S:FnScope N ps scope) (hd:A.handled=none) (e0:Env0 P w K mg base A outer s H) (hl:vs.length=ps.length) (r:Vals vs us)
  (x:InCallC s s.heap.objs.size (bindL (envOfC qual scope s.heap.objs.size f cd).kindOf (ps.zip us) λ_=>none) (cellsFrom (s.heap.objs.size+1) scope.names []) (bindC (envOfC qual scope s.heap.objs.size f cd).kindOf (ps.zip us) λ_=>none) s1) :
  Inv (ZfT CX P w K mg base N qual scope f cd A outer s H E) [] (start N vs) H s1:=by
 have hpl:ps.length<=N.length:=by have:=congrArg List.length S.pre;rw[YY]at this;omega
 obtain⟨h1,tk,rfl,hk⟩:=x.done
 have noA:∀b:Addr,b∉(ZfT CX P w K mg base N qual scope f cd A outer s H E).ex:=λb z=>absurd (show b∈([]:List Addr)from z) (by simp)
 refine⟨⟨e0.mod,S.kind,rfl,rfl,Yf _,λy z c h1 h2=>?_,λy hy=>?_,λy c _ h=>?_,λ_=>hd,Around.frames_deeper e0.frames,.inr ⟨rfl,rfl⟩,λb z=>absurd z (noA b),e0.bs,e0.bsz,λb _ _=>noA b,λb z=>absurd z (noA b),e0.funs,e0.frf⟩,
  rfl,e0.bare,Un.kept hk,⟨_,x.toInCall.ns,λi y v h1 h2 h3=>?_⟩,λy c h=>⟨_,x.cell y c h⟩,e0.hok.fresh (Yf _),λy c h=>?_,λp hp=>absurd (show p∈([]:List (Addr×Obj))from hp) (by simp),e0.hok.kept hk,?_⟩
 ·exact name_of_addr x.apart (PySem.mem_of_lookup h1) (PySem.mem_of_lookup h2)
 ·have hy:scope.names.lookup y=some .cell\/scope.names.lookup y=some .free:=hy
  rcases hy with hy|hy
  ·exact Zkt hy
  ·exact absurd rfl (S.nofree _ (PySem.mem_of_lookup hy))
 ·exact YW (x.above y c (PySem.mem_of_lookup h))
 ·have hi:i<vs.length:=by
   unfold start at h2
   by_cases hi:i<vs.length
   ·exact hi
   ·rw[Y8 (by simpa using hi)]at h2
    rw[List.getElem?_replicate]at h2
    split at h2<;>cases h2
  have ha:vs[i]?=some v:=by
   unfold start at h2
   rw[Y4 (by simpa using hi),YH]at h2
   cases e:vs[i]? with
   |none=>rw[e]at h2;cases h2
   |some a=>rw[e]at h2;cases h2;rfl
  obtain⟨u,hu,rv⟩:=r.get ha
  have hp:ps[i]?=some y:=by
   rw[<-S.pre,List.getElem?_take_of_lt (by omega)];exact h1
  have ndP:ps.Nodup:=by rw[<-S.pre];exact S.nd.sublist (List.take_sublist _ _)
  refine⟨u,rv,?_⟩
  rcases S.par y (List.mem_of_getElem? hp)with k|k
  ·exact .inl ⟨k,Zi6 ndP hp hu k⟩
  ·obtain⟨c,e⟩:=Zkt (n:=s.heap.objs.size+1) k
   refine .inr ⟨.inl k,c,e,?_⟩
   have q:=x.cell y c e
   rw[Zi7 ndP hp hu (by show scope.names.lookup y≠_;rw[k];decide)]at q
   exact q
 ·exact e0.hok.fresh (YW (x.above y c (PySem.mem_of_lookup h)))
 ·unfold start
  show _=N.length
  rw[YL,Yl,List.length_replicate]
  omega
theorem fn_of {CX:CXT}{P:Program}{w:World}{K:PySem.W.Frag}{mg:Str->Option Value}{base:Heap}{k:Nat}{f:Addr}{name qual:Str}{params:Arguments}{body:List Stmt}{scope:Scope}{dV kV doc pm cdv ct oc:Value}{an od:Option Addr}
  {osl:Array (Option Value)}{N ps:List Str}{sp:Sp} (lk:K.lookup f=some ⟨oc,od,.func (PySem.W.fnOf name qual params body scope dV kV doc pm an cdv ct),osl⟩) (hcd:PySem.W.codeIn K cdv qual=true) (S:FnScope N ps scope)
  (len:∀vs H Q E,sp vs H Q E->vs.length=ps.length)
  (hbody:∀(A:Around) (outer:List Env) (s:Shared) (H:Hp) (vs:List V) (Q:VK) (E:XK),Room k (A.deeper (envOfC qual scope s.heap.objs.size f cdv))->sp vs H Q E ->
   ∃t,PSs (ZfT CX P w K mg base N qual scope f cdv A outer s H E) body t/\t {nx:=λ_ H'=>Q .non H',rt:=Q} (start N vs) H) :
  FnOk P w K mg base CX (k+1) f (PySem.W.fnOf name qual params body scope dV kV doc pm an cdv ct) ps sp:=by
 refine⟨len,λA outer s H args us vs Q E hr e0 hb r hsp=>?_⟩
 have hl:=len _ _ _ _ hsp
 have KX:K.In s.heap:=e0.mod.kin.keeps λb o e=>(e0.bs b o e).1
 have lim:s.heap.NoLimit:=e0.mod.nolimit.keeps λb o e=>(e0.bs b o e).1
 have hkind:∀y∈ps.zip us,scope.names.lookup y.1=some .local\/(scope.names.lookup y.1=some .cell/\((cellsFrom (s.heap.objs.size+1) scope.names []).lookup y.1).isSome=true):=λ⟨n,v⟩ hy=>by
  rcases S.par n (List.of_mem_zip hy).1 with q|q
  ·exact .inl q
  ·exact .inr ⟨q,PySem.W.cellsFrom_some _ _ _ (.inl q)⟩
 refine codeAny_call_function hr.depth (KX _ _ lk) rfl S.co S.gen rfl (PySem.W.codeRec_of KX hcd) (hb _ _ _ _ ?_)
 refine wpAny_newFunctionEnv_cells S.kind hkind λenv he s1 x=>?_
 subst he
 refine⟨lim.keeps x.toInCall.keep,codeAny_func ?_⟩
 obtain⟨t,ht,hq⟩:=hbody A outer s H vs Q E (hr.deeper _) hsp
 have I:Inv (ZfT CX P w K mg base N qual scope f cdv A outer s H E) [] (start N vs) H s1:=Zm6 S hr.hd e0 hl r x
 refine Yu (ht [] s1 (start N vs) H _ I hq) (λfl s' hs=>?_) λe s' hs=>hs
 have fin:∀{σ':St}{H':Hp}{v:V}{u:Value},Inv (ZfT CX P w K mg base N qual scope f cdv A outer s H E) [] σ' H' s'->RelV v u->Q v H'->CE outer P w H s Q u s' :=
  λ{σ' H' v u} J rv q=>⟨v,H',J.os,J.bare,J.base,J.hok,rv,q⟩
 cases fl with
 |ret u =>
  obtain⟨v,σ',H',J,rv,q⟩:=hs
  exact fin J rv q
 |next =>
  obtain⟨σ',H',J,q⟩:=hs
  exact fin (v:=V.non) (u:=Value.none) J rfl q
 |brk =>
  obtain⟨_,_,_,q⟩:=hs
  exact False.elim q
 |cont =>
  obtain⟨_,_,_,q⟩:=hs
  exact False.elim q
section
variable {X:Cx}{x:Str}{p pos:Pos}{e:Expr}{es:List Expr}{t:TA}{id T:String}{r:List V->Hp->VK->Prop}
noncomputable def tCB (r:List V->Hp->VK->Prop) (t:TA):TE:=fun σ H Q=>t σ H λvs H1=>r vs H1 Q
theorem Zh (hc:Zb4 X (.builtin id) r) (hg:Gl X x) (hm:X.mg x=none) (hv:bootBuiltins x=some (.builtin id)) (ha:PA X (e::es) t) (hn:x≠"__name__":=by decide) (hdb:(x==("__debug__":Str))=false:=by decide)
  (he:starEach (e::es) X.env=(false,eval e X.env)::starEach es X.env:=by rfl) (hpl:(backTo pos (starEach es X.env)).any (·.1)=false:=by rfl):PE X (.Call (.Name x p) (e::es) [] pos) (tCB r t):=by
 intro pins s σ H Q I h
 refine wpAny_Call_Name_kw (Zcw I hg hm hv ?_ hn hdb)
 exact PyProof.Rows.callWith_builtin1 (thn (ha pos pins s σ H _ I h) λus s1 ⟨vs,H1,I1,r1,q1⟩=>hc pins s1 σ H1 vs us Q I1 r1 q1) he hpl
theorem Z9 (hc:Zb4 X (.type T) r) (hg:Gl X x) (hm:X.mg x=none) (hv:bootBuiltins x=some (.type T)) (ha:PA X (e::es) t) (hn:x≠"__name__":=by decide) (hdb:(x==("__debug__":Str))=false:=by decide)
  (he:starEach (e::es) X.env=(false,eval e X.env)::starEach es X.env:=by rfl) (hpl:(backTo pos (starEach es X.env)).any (·.1)=false:=by rfl):PE X (.Call (.Name x p) (e::es) [] pos) (tCB r t):=by
 intro pins s σ H Q I h
 refine wpAny_Call_Name_kw (Zcw I hg hm hv ?_ hn hdb)
 exact PyProof.Rows.callWith_type1 (thn (ha pos pins s σ H _ I h) λus s1 ⟨vs,H1,I1,r1,q1⟩=>hc pins s1 σ H1 vs us Q I1 r1 q1) he hpl
end
end L2
namespace HT
open PySem PyProof.Rows
section
open PySem.SeqAt
open PySem.AutoSeq1 (wpAny_loadPart')
open PySem.MeetsSeq PySem.MeetsSeq2 PySem.MeetsSeq3
end
section
variable {prog:Program}{w:World}{A:Around}{E:Value->Shared->Prop}{s:Shared}
noncomputable def sIx (n d:Nat):Option Int->Nat
 |none=>d
 |some v=>if v<0 then (v+(n:Int)).toNat else min v.toNat n
theorem sIx_le (n d:Nat) (hd:d<=n) (o:Option Int):sIx n d o<=n:=by
 cases o with
 |none=>exact hd
 |some v =>
  show(if v<0 then (v+(n:Int)).toNat else min v.toNat n)<=n
  by_cases hv:v<0
  ·rw[Yd hv];omega
  ·rw[Yb hv];exact Nat.min_le_right _ _
theorem Zmu (v:Int) (n d:Nat):(if v<0 then max (v+(n:Int)) 0 else min v (n:Int))=((sIx n d (some v):Nat):Int):=by
 show(if v<0 then max (v+(n:Int)) 0 else min v (n:Int))=(((if v<0 then (v+(n:Int)).toNat else min v.toNat n):Nat):Int)
 by_cases hv:v<0
 ·simp only[Yd hv];omega
 ·simp only[Yb hv];omega
theorem Zlv (lo hi:Option Int) (n:Nat):Builtin.Slice.sliceAdjust lo hi 1 (n:Int)=(((sIx n 0 lo:Nat):Int),((sIx n n hi:Nat):Int)):=by
 have h1:¬ ((1:Int)<0):=by omega
 unfold Builtin.Slice.sliceAdjust
 simp only[h1,if_false]
 refine Prod.ext ?_ ?_
 ·cases lo with
  |none=>rfl
  |some v=>exact Zmu v n 0
 ·cases hi with
  |none=>rfl
  |some v=>exact Zmu v n n
theorem Zlw (i j:Nat):Builtin.Slice.slicePlaces (i:Int) (j:Int) 1=j-i:=by
 unfold Builtin.Slice.slicePlaces
 have h1:(1:Int)>0:=by omega
 simp only[h1,if_true,Int.ediv_one]
 split<;>omega
theorem Zhz {v:Value}{o:Option Int}{Q:Option Int->Shared->Prop} (p:IsPart v o) (h:Q o s):wpAny (model prog w) A (Builtin.Slice.slicePartIndex v) Q E s:=by
 cases p with
 |none=>exact slicePart_none h
 |int i t=>exact slicePart_int h
theorem ZcW {sl:Addr}{vl vu:Value}{lo hi:Option Int}{n:Nat}{Q:Int×Int×Nat->Shared->Prop} (hs:s.heap.IsSliceOf sl vl vu .none) (pl:IsPart vl lo) (pu:IsPart vu hi)
  (h:Q (((sIx n 0 lo:Nat):Int),1,sIx n n hi-sIx n 0 lo) s):wpAny (model prog w) A (Builtin.Slice.sliceApplied (.ref sl) (pure (n:Int))) Q E s:=by
 obtain⟨os,hos,hcs,hds⟩:=id hs
 unfold Builtin.Slice.sliceApplied Builtin.Slice.sliceFields
 refine Ya (Ya (wpAny_field hos hds (x:=vl) rfl (Ya (wpAny_field hos hds (x:=vu) rfl (Ya (wpAny_field hos hds (x:=.none) rfl (Yc ?_)))))))
 refine Ya (slicePart_none ?_)
 show wpAny _ _ (if ((1:Int)==0)=true then _ else _) _ _ s
 rw[Yb (by decide)]
 refine Ya (Zhz pl (Ya (Zhz pu (Ya (Yc ?_)))))
 show wpAny _ _ (match Builtin.Slice.sliceAdjust lo hi 1 (n:Int)with|(lo,hi)=>pure (lo,(1:Int),Builtin.Slice.slicePlaces lo hi 1)) _ _ s
 rw[Zlv lo hi n]
 show wpAny _ _ (pure (((sIx n 0 lo:Nat):Int),(1:Int),Builtin.Slice.slicePlaces ((sIx n 0 lo:Nat):Int) ((sIx n n hi:Nat):Int) 1)) _ _ s
 rw[Zlw]
 exact Yc h
theorem ZoO (xs:Array Value) (i k:Nat):((List.range k).filterMap λ(m:Nat)=>xs[((i:Int)+(m:Int)*1).toNat]?).toArray=((xs.toList.drop i).take k).toArray:=by
 have e:(λ(m:Nat)=>xs[((i:Int)+(m:Int)*1).toNat]?)=λm=>xs[i+m]?:=by
  funext m
  have:((i:Int)+(m:Int)*1).toNat=i+m:=by omega
  rw[this]
 rw[e]
 have:=pick_run xs i k
 rw[List.filterMap_map]at this
 have e2:((λx=>xs[x]?) ∘ λx=>i+x)=λm=>xs[i+m]?:=rfl
 rw[e2]at this
 rw[this]
theorem ZfU {t sl:Addr}{items:Array Value}{vl vu:Value}{lo hi:Option Int}{Q:Value->Shared->Prop} (ht:IsTup s.heap t items) (hs:s.heap.IsSliceOf sl vl vu .none) (pl:IsPart vl lo) (pu:IsPart vu hi)
  (hw:¬ (sIx items.size 0 lo=0/\sIx items.size items.size hi=items.size))
  (h:Q (.ref s.heap.objs.size) {s with heap:=s.heap.push {cls:=.type "tuple",data:=.seq ((items.toList.drop (sIx items.size 0 lo)).take (sIx items.size items.size hi-sIx items.size 0 lo)).toArray}})
  (hsz:items.size<=sizeLine):wpAny (model prog w) A (getItem (.ref t) (.ref sl)) Q E s:=by
 have htake:sizeOk (.seq ((items.toList.drop (sIx items.size 0 lo)).take (sIx items.size items.size hi-sIx items.size 0 lo)).toArray):=by
  show((items.toList.drop (sIx items.size 0 lo)).take (sIx items.size items.size hi-sIx items.size 0 lo)).toArray.size<=sizeLine
  rw[Yr,YY,Y9,YK]
  omega
 have hj:sIx items.size items.size hi<=items.size:=sIx_le _ _ (Yf _) hi
 obtain⟨os,hos,hcs,hds⟩:=id hs
 have hTs:s.TypeIs (.ref sl) "slice":=⟨os,hos,hcs⟩
 unfold getItem
 try with_reducible refine wpAny_holding ?_
 first|refine Ya (Yc ?_)|skip
 refine Ya (wpAny_sequenceKey ht.typeIs (by decide) ?_)
 refine Ya (wpAny_callSpecial?_slot (name:=Str.ofString "__getitem__") ht.typeIs PyProof.Rows.slot_tuple_getitem
  (wpAny_call_entry PyProof.Rows.slot_tuple_getitem ht.typeIs entry_tuple_getitem ?_ (args_tuple_getitem _ _)))
 show wpAny _ _ (Builtin.Tuple.tupleItemsOf (.ref t) >>= _) _ _ s
 refine Ya (tupleItemsOf_ ht ?_)
 refine Ya (wpAny_typeOf hTs ?_)
 rw[Yd (by decide)]
 refine Ya (ZcW hs pl pu ?_)
 have hno:¬ ((((sIx items.size 0 lo:Nat):Int)==0&&(1:Int)==1&&(sIx items.size items.size hi-sIx items.size 0 lo)==items.size)=true):=by
  intro q
  rw[Bool.and_eq_true,Bool.and_eq_true]at q
  have q1:((sIx items.size 0 lo:Nat):Int)=0:=eq_of_beq q.1.1
  have q2:sIx items.size items.size hi-sIx items.size 0 lo=items.size:=eq_of_beq q.2
  exact hw ⟨by omega,by omega⟩
 show wpAny _ _ (if (((sIx items.size 0 lo:Nat):Int)==0&&(1:Int)==1&&(sIx items.size items.size hi-sIx items.size 0 lo)==items.size)=true then _ else _) _ _ s
 rw[Yb hno,ZoO]
 first
  |exact Ya (m:=Builtin.Tuple.tupleExact _) (wpAny_newObj_type (Yc ⟨_,rfl,Yc h⟩) htake)
  |exact Ya (m:=Builtin.Tuple.tupleExact _) (wpAny_newObj_type (Ya (Yc (Yc ⟨_,rfl,Yc h⟩))) htake)
  |exact Ya (Ya (m:=Builtin.Tuple.tupleExact _) (wpAny_newObj_type (Yc (Yc ⟨_,rfl,Yc h⟩)) htake))
  |exact Ya (Ya (m:=Builtin.Tuple.tupleExact _) (wpAny_newObj_type (Yc ⟨_,rfl,Yc h⟩) htake))
end
end HT
namespace L2
open PySem PySem.Spec PyProof.Rows
noncomputable abbrev TO:=St->Hp->(Option Int->Hp->Prop)->Prop
noncomputable def PO (X:Cx) (e:Option Expr) (t:TO):Prop :=
 ∀(pins:List (Addr×Obj)) (s:Shared) (σ:St) (H:Hp) (Q:Option Int->Hp->Prop),Inv X pins σ H s->t σ H Q ->
  wpAny (model X.prog X.w) X.A (evalPart e X.env) (λu s'=>∃o H',Inv X pins σ H' s'/\IsPart u o/\Q o H') X.xe s
noncomputable def Zjx:TO:=λ_ H Q=>Q none H
noncomputable def ZoP (t:TE):TO:=fun σ H Q=>t σ H λx H1=>∃i,x=.int i/\Q (some i) H1
theorem intsAre_of {ns:List Int}:∀{us:List Value},Vals (ns.map V.int) us->IntsAre us ns:=by
 induction ns with
 |nil=>intro us r;rw[List.map_nil]at r;cases r;exact .nil
 |cons n ns ih =>
  intro us r
  rw[YO]at r
  cases r with
  |cons r1 r2 =>
   obtain⟨t,e⟩:=r1
   subst e
   exact .cons n t (ih r2)
section
variable {X:Cx}{e:Expr}{te:TE}{lo hi:Option Expr}{tl th:TO}{pos p2:Pos}
theorem Ze0:PO X none Zjx:=by
 intro pins s σ H Q I h
 rw[evalPart_none]
 exact Yc ⟨none,H,I,.none,h⟩
theorem Ze1 (h:PE X e te):PO X (some e) (ZoP te):=by
 intro pins s σ H Q I hw
 rw[evalPart_some]
 refine thn (h pins s σ H _ I hw) λu s1 ⟨x,H1,I1,r1,q1⟩=>?_
 obtain⟨i,rfl,q⟩:=q1
 obtain⟨t,rfl⟩:=r1
 exact⟨some i,H1,I1,.int i t,q⟩
noncomputable def SlR (X:Cx) (r:V->Option Int->Option Int->Hp->VK->Prop):Prop :=
 ∀(pins:List (Addr×Obj)) (s:Shared) (σ:St) (H:Hp) (x:V) (v vl vu:Value) (lo hi:Option Int) (sl:Addr) (Q:VK),Inv X pins σ H s->RelV x v->s.heap.IsSliceOf sl vl vu .none->IsPart vl lo->IsPart vu hi->r x lo hi H Q ->
  ∃T id,typeLookup (.type T) "__getitem__"=pure (some (.builtin id))/\s.TypeIs v T/\wpAny (model X.prog X.w) X.A (getItem v (.ref sl)) (EP X pins σ Q) X.xe s
noncomputable def tSl (r:V->Option Int->Option Int->Hp->VK->Prop) (te:TE) (tl th:TO):TE:=fun σ H Q=>te σ H λx H1=>tl σ H1 λl H2=>th σ H2 λu H3=>r x l u H3 Q
theorem ZcX {r:V->Option Int->Option Int->Hp->VK->Prop} (hr:SlR X r) (he:PE X e te) (hl:PO X lo tl) (hu:PO X hi th):PE X (.Subscript e (.Slice lo hi none p2) pos) (tSl r te tl th):=by
 intro pins s σ H Q I h
 refine Subscript_ (thn (he pins s σ H _ I h) λv s1 ⟨x,H1,I1,r1,q1⟩=>?_)
 refine wpAny_Slice (thn (hl pins s1 σ H1 _ I1 q1) λvl s2 ⟨l,H2,I2,pl,q2⟩=>thn (hu pins s2 σ H2 _ I2 q2) λvu s3 ⟨u,H3,I3,pu,q3⟩=>?_)
 rw[evalPart_none]
 refine Yc ?_
 have I4:Inv X pins σ H3 {s3 with heap:=s3.heap.push {cls:=.type "slice",data:=.fields #[vl,vu,.none]}}:=I3.kept (t':=s3.toks) λb ob q=>Yi _ q
 obtain⟨T,id,hT,ht,hg⟩:=hr pins {s3 with heap:=s3.heap.push {cls:=.type "slice",data:=.fields #[vl,vu,.none]}} σ H3 x v vl vu l u s3.heap.objs.size Q I4 r1 (Heap.IsSliceOf.new ..) pl pu q3
 show wpAny (model X.prog X.w) X.A (subscriptTail e (.Slice lo hi none p2) v (.ref s3.heap.objs.size)) (EP X pins σ Q) X.xe {s3 with heap:=s3.heap.push {cls:=.type "slice",data:=.fields #[vl,vu,.none]}}
 exact tail_any (ops:=[.ref s3.heap.objs.size,v]) ht hT hg (by with_unfolding_all rfl)
noncomputable def Zcy (xs:List V) (lo hi:Option Int):List V:=(xs.drop (HT.sIx xs.length 0 lo)).take (HT.sIx xs.length xs.length hi-HT.sIx xs.length 0 lo)
theorem Zg4 (xs:List V) (lo hi:Option Int):(Zcy xs lo hi).length<=xs.length:=by
 unfold Zcy
 rw[YY,Y9]
 omega
noncomputable def rSlT (K:PySem.W.Frag):V->Option Int->Option Int->Hp->VK->Prop:=λx lo hi H Q=>∃a xs,x=.ref a/\SqT K H a xs /\
 ¬ (HT.sIx xs.length 0 lo=0/\HT.sIx xs.length xs.length hi=xs.length)/\∀p,H p=none->Q (.ref p) (upd H p (.tup (Zcy xs lo hi)))
theorem sl_tup:SlR X (rSlT X.K):=by
 intro pins s σ H x v vl vu lo hi sl Q I rx hs pl pu h
 obtain⟨a,xs,rfl,hx,hw,q⟩:=h
 cases rx
 obtain⟨its,r,ht,hz⟩:=I.tuple hx
 have hlen:its.toArray.size=xs.length:=by rw[Yr];exact r.length.symm
 refine⟨"tuple",_,PyProof.Rows.slot_tuple_getitem.lookup,ht.typeIs,?_⟩
 refine HT.ZfU ht hs pl pu (by rw[hlen];exact hw) ?_ (by rw[hlen];exact hz)
 rw[hlen]
 refine⟨.ref s.heap.objs.size,_,I.laid (t':=s.toks) (o:=.tup (Zcy xs lo hi)) (λb ob q=>Yi _ q) (Yf _) ?_,rfl,q _ (I.hok.fresh (Yf _))⟩
 exact⟨Yn (Zg4 xs lo hi) hz,_,(r.drop (HT.sIx xs.length 0 lo)).take (HT.sIx xs.length xs.length hi-HT.sIx xs.length 0 lo),IsTup.new _ _⟩
end
noncomputable def ixN (n:Nat) (i:Int):Option Nat:=if 0<=i then (if i<n then some i.toNat else none)else if -(n:Int)<=i then some (i+n).toNat else none
noncomputable def atI {α:Type} (xs:List α) (i:Int):Option α:=(ixN xs.length i).bind λj=>xs[j]?
theorem Zmv {n:Nat}{i:Int}{j:Nat} (h:ixN n i=some j):seqIndex? i n=some j/\j<n/\-(n:Int)<=i/\i<n:=by
 unfold ixN at h
 by_cases h0:0<=i
 ·rw[Yd h0]at h
  by_cases h1:i<n
  ·rw[Yd h1]at h
   have e:i.toNat=j:=YD h
   exact⟨by rw[seqIndex_of h0 h1,e],by omega,by omega,h1⟩
  ·rw[Yb h1]at h;cases h
 ·rw[Yb h0]at h
  by_cases h1:-(n:Int)<=i
  ·rw[Yd h1]at h
   have e:(i+n).toNat=j:=YD h
   exact⟨by rw[seqIndex_neg (by omega) h1,e],by omega,h1,by omega⟩
  ·rw[Yb h1]at h;cases h
theorem Zmw {α:Type}{xs:List α}{i:Int}{v:α} (h:atI xs i=some v):∃j,seqIndex? i xs.length=some j/\xs[j]?=some v/\j<xs.length/\-(xs.length:Int)<=i/\i<xs.length:=by
 unfold atI at h
 cases e:ixN xs.length i with
 |none=>rw[e]at h;cases h
 |some j =>
  rw[e]at h
  obtain⟨h1,h2,h3,h4⟩:=Zmv e
  exact⟨j,h1,h,h2,h3,h4⟩
theorem ZoQ {α:Type} (xs:List α) (v:α):atI (xs++[v]) (-1)=some v:=by
 have hl:(xs++[v]).length=xs.length+1:=by simp
 have e:ixN (xs++[v]).length (-1)=some xs.length:=by
  unfold ixN
  rw[hl,Yb (by decide),Yd (by omega)]
  congr 1
  omega
 unfold atI
 rw[e]
 show(xs++[v])[xs.length]?=some v
 simp
noncomputable def Zrn (b:Expr):Prop:=∀o i,subscripted b false o i=operate [o,i] (getItem o i)
noncomputable def IxR (X:Cx) (r:R2):Prop :=
 ∀(value slice:Expr) (pins:List (Addr×Obj)) (s:Shared) (σ:St) (H:Hp) (x y:V) (v u:Value) (Q:VK),Inv X pins σ H s->RelV x v->RelV y u->r x y H Q ->
  subscripted slice false v u=operate [v,u] (getItem v u)->wpAny (model X.prog X.w) X.A (subscriptTail value slice v u) (EP X pins σ Q) X.xe s
noncomputable def MtR (X:Cx) (id:String) (r:V->List V->Hp->VK->Prop):Prop :=
 ∀(pins:List (Addr×Obj)) (s:Shared) (σ:St) (H:Hp) (x:V) (xs:List V) (v:Value) (us:List Value) (Q:VK),Inv X pins σ H s->RelV x v->Vals xs us->r x xs H Q ->
  wpAny (model X.prog X.w) X.A (call (.builtin id) (v::us)) (EP X pins σ Q) X.xe s
section
variable {X:Cx}{a b:Expr}{ta tb:TE}{pos:Pos}
theorem IxR.or {r r':R2} (h:IxR X r) (h':IxR X r'):IxR X (λx y H Q=>r x y H Q\/r' x y H Q):=by
 intro value slice pins s σ H x y v u Q I rx ry q hs
 rcases q with q|q
 ·exact h value slice pins s σ H x y v u Q I rx ry q hs
 ·exact h' value slice pins s σ H x y v u Q I rx ry q hs
theorem Zw {r:R2} (hr:IxR X r) (ha:PE X a ta) (hb:PE X b tb) (hs:Zrn b):PE X (.Subscript a b pos) (tOp r ta tb):=by
 intro pins s σ H Q I h
 exact Subscript_ (binT ha hb I h λv u s2 x y H2 I2 rx ry q=>hr a b pins s2 σ H2 x y v u Q I2 rx ry q (hs _ _))
noncomputable def Zku (K:PySem.W.Frag):R2:=λx y H Q=>∃p xs i v,x=.ref p/\y=.int i/\SqL K H p xs/\atI xs i=some v/\Q v H
noncomputable def Zm7 (K:PySem.W.Frag):R2:=λx y H Q=>∃p xs i v,x=.ref p/\y=.int i/\SqT K H p xs/\atI xs i=some v/\Q v H
theorem Zz:IxR X (Zku X.K):=by
 intro value slice pins s σ H x y v u Q I rx ry h hs
 obtain⟨p,xs,i,z,rfl,rfl,hq,he,q⟩:=h
 cases rx
 obtain⟨t,rfl⟩:=ry
 obtain⟨its,r,pl,hz⟩:=I.list hq
 obtain⟨j,h1,h2,h3,h4,h5⟩:=Zmw he
 obtain⟨w,ew,rw'⟩:=r.get h2
 have hl:=r.length
 have hn:=Zjw
 have fin:EP X pins σ Q w s:=⟨z,H,I,rw',q⟩
 by_cases h0:0<=i
 ·have hj:i.toNat=j:=by
   rw[seqIndex_of h0 h5]at h1
   exact YD h1
  exact item_listR pl.isList h0 (by omega) (by rw[hj];simpa using ew) fin hs
 ·have hj:(i+(its.toArray.size:Int)).toNat=j:=by
   rw[seqIndex_neg (by omega) h4]at h1
   rw[Yr,<-hl]
   exact YD h1
  exact subscriptTail_builtinR (x:=w) pl.isList.typeIs slot_list_getitem.lookup
   (wpAny_getItem_list_neg (Q:=λr s'=>r=w/\EP X pins σ Q r s') pl.isList (by omega) (by rw[Yr]<;>omega) (by omega) (by rw[hj];simpa using ew) ⟨rfl,fin⟩) hs
theorem Za6:IxR X (Zm7 X.K):=by
 intro value slice pins s σ H x y v u Q I rx ry h hs
 obtain⟨p,xs,i,z,rfl,rfl,hq,he,q⟩:=h
 cases rx
 obtain⟨t,rfl⟩:=ry
 obtain⟨its,r,pl,hz⟩:=I.tuple hq
 obtain⟨j,h1,h2,h3,h4,h5⟩:=Zmw he
 obtain⟨w,ew,rw'⟩:=r.get h2
 have hl:=r.length
 have hn:=Zjw
 have fin:EP X pins σ Q w s:=⟨z,H,I,rw',q⟩
 exact subscriptTail_builtinR (x:=w) pl.typeIs slot_tuple_getitem.lookup
  (getItem_tuple (j:=j) (Q:=λr s'=>r=w/\EP X pins σ Q r s') pl (by omega) (by omega) (by rw[Yr,<-hl];exact h1) (by simpa using ew) ⟨rfl,fin⟩) hs
theorem Zlx (its:List Value) (n j:Nat) (u:Value):Obj.mapSeq (·.setIfInBounds j u) {cls:=.type "list",data:=.seq its.toArray n}={cls:=.type "list",data:=.seq (its.set j u).toArray n}:=by
 simp[Obj.mapSeq]
theorem Inv.lst {pins:List (Addr×Obj)}{σ:St}{H:Hp}{s:Shared}{p:Addr}{xs:List V} (I:Inv X pins σ H s) (h:H p=some (.lst xs)) :
  ∃(its:List Value) (n:Nat),Vals xs its/\s.heap.get? p=some {cls:=.type "list",data:=.seq its.toArray n}/\xs.length<=sizeLine:=by
 obtain⟨z,its,n,r,e⟩:=I.hok p _ h
 exact⟨its,n,r,e,z⟩
theorem Inv.lstUpd {pins:List (Addr×Obj)}{σ:St}{H:Hp}{s:Shared}{p:Addr}{xs ys:List V}{its its':List Value}{n n':Nat}{f:Obj->Obj} (I:Inv X pins σ H s) (h:H p=some (.lst xs))
  (ho:s.heap.get? p=some {cls:=.type "list",data:=.seq its.toArray n}) (hf:f {cls:=.type "list",data:=.seq its.toArray n}={cls:=.type "list",data:=.seq its'.toArray n'}) (r:Vals ys its') (hz:ys.length<=sizeLine) (t:Nat) :
  Inv X pins σ (upd H p (.lst ys)) {s with heap:=s.heap.update p f,toks:=t}:=by
 have e:(s.heap.update p f).get? p=some {cls:=.type "list",data:=.seq its'.toArray n'}:=by
  rw[Heap.get?_update_self f ho (by rw[hf]<;>rfl),hf]
 refine I.write (x:=p) (e:=p) (by rw[h];trivial) (.inl rfl) (λb u hb q=>(Heap.get?_update_other _ _ (Ne.symm hb)).trans q) ⟨_,e⟩ ?_
 exact⟨hz,its',n',r,e⟩
noncomputable def ZoR:V->V->V->Hp->(Hp->Prop)->Prop:=λo i v H Q=>∃p xs k j,o=.ref p/\i=.int k/\H p=some (.lst xs)/\ixN xs.length k=some j/\Q (upd H p (.lst (xs.set j v)))
theorem set_list:PSet X ZoR:=by
 intro pins s σ H o i v ov iv u Q I ro ri rv h
 obtain⟨p,xs,k,j,rfl,rfl,hp,hj,q⟩:=h
 cases ro
 obtain⟨t,rfl⟩:=ri
 obtain⟨its,n,r,ho,hz⟩:=I.lst hp
 obtain⟨h1,h2,h3,h4⟩:=Zmv hj
 have hl:=r.length
 have hn:=Zjw
 have I':Inv X pins σ (upd H p (.lst (xs.set j v))) {s with heap:=s.heap.update p (Obj.mapSeq (·.setIfInBounds j u))} :=
  I.lstUpd hp ho (Zlx its n j u) (r.set rv j) (by rw[List.length_set];exact hz) s.toks
 by_cases h0:0<=k
 ·have hk:k.toNat=j:=by
   rw[seqIndex_of h0 h4]at h1
   exact YD h1
  exact PySem.W.ki_setAt ho h0 (by omega) (by rw[Yr,<-hl];exact h4) (by rw[hk];exact⟨_,I',q⟩)
 ·have hk:(k+(its.toArray.size:Int)).toNat=j:=by
   rw[seqIndex_neg (by omega) h3]at h1
   rw[Yr,<-hl]
   exact YD h1
  exact PySem.W.ki_setBack ho (by omega) (by rw[Yr,<-hl];exact h3) (by omega) (by rw[hk];exact⟨_,I',q⟩)
theorem Zjy (lo hi:Option Int) (n:Nat):(sliceBounds lo hi none n).1=((HT.sIx n 0 lo:Nat):Int)/\(sliceBounds lo hi none n).2.1=((HT.sIx n n hi:Nat):Int)/\(sliceBounds lo hi none n).2.2=1:=by
 refine⟨?_,?_,rfl⟩
 ·cases lo with
  |none=>simp[sliceBounds,HT.sIx]
  |some i =>
   simp only[sliceBounds,HT.sIx,Option.getD_none,show(1:Int)>0 by decide,if_true]
   by_cases h:i<0
   ·simp only[h,if_true]<;>omega
   ·simp only[h,if_false]<;>omega
 ·cases hi with
  |none=>simp[sliceBounds,HT.sIx]
  |some i =>
   simp only[sliceBounds,HT.sIx,Option.getD_none,show(1:Int)>0 by decide,if_true]
   by_cases h:i<0
   ·simp only[h,if_true]<;>omega
   ·simp only[h,if_false]<;>omega
theorem Ziz (its:List Value) (lo hi:Option Int):slicePick its.toArray lo hi none=((its.drop (HT.sIx its.length 0 lo)).take (HT.sIx its.length its.length hi-HT.sIx its.length 0 lo)).toArray:=by
 obtain⟨h1,h2,h3⟩:=Zjy lo hi its.toArray.size
 unfold slicePick
 rw[h1,h2,h3]
 simp only[sliceRange_one,pick_run,Yr]<;>rfl
noncomputable def rSlL (K:PySem.W.Frag):V->Option Int->Option Int->Hp->VK->Prop:=λx lo hi H Q=>∃a xs,x=.ref a/\SqL K H a xs/\∀p,H p=none->Q (.ref p) (upd H p (.lst (Zcy xs lo hi)))
theorem ZfV:SlR X (rSlL X.K):=by
 intro pins s σ H x v vl vu lo hi sl Q I rx hs pl pu h
 obtain⟨a,xs,rfl,hx,q⟩:=h
 cases rx
 obtain⟨its,r,ht,hz⟩:=I.list hx
 have hlen:=r.length
 refine⟨"list",_,slot_list_getitem.lookup,ht.isList.typeIs,?_⟩
 refine wpAny_getItem_list_slice ht.isList hs pl pu .none (by simp) ?_ (by rw[Yr]<;>omega)
 rw[Ziz,<-hlen]
 refine⟨.ref s.heap.objs.size,_,I.laid (t':=s.toks) (o:=.lst (Zcy xs lo hi)) (λb ob q=>Yi _ q) (Yf _) ?_,rfl,q _ (I.hok.fresh (Yf _))⟩
 exact⟨Yn (Zg4 xs lo hi) hz,_,0,(r.drop (HT.sIx xs.length 0 lo)).take (HT.sIx xs.length xs.length hi-HT.sIx xs.length 0 lo),Yv _ rfl⟩
noncomputable def flatV:V->Bool
 |.non=>true
 |.bl _=>true
 |.int _=>true
 |.str _=>true
 |_=>false
noncomputable def eqV:V->V->Bool
 |.non,.non=>true
 |.bl a,.bl b=>a==b
 |.bl a,.int b=>(if a then 1 else 0)==b
 |.int a,.bl b=>a==(if b then 1 else 0)
 |.int a,.int b=>a==b
 |.str a,.str b=>a==b
 |_,_=>false
theorem ZoS {A:Around}{s:Shared}{y x:V}{u v:Value} (ry:RelV y u) (rx:RelV x v) (fy:flatV y=true) (fx:flatV x=true):SeqAt.EqAt A s u v (eqV y x):=by
 cases y with
 |non =>
  cases ry
  cases x with
  |non=>cases rx;exact SeqAt.EqAt.same _
  |bl b=>cases rx;exact SeqAt.EqAt.none_bool b
  |int b=>obtain⟨t,rfl⟩:=rx;exact SeqAt.EqAt.none_int b t
  |str b=>obtain⟨t,rfl⟩:=rx;exact SeqAt.EqAt.none_str b t
  |_=>exact absurd (show false=true from fx) YB
 |bl a =>
  cases ry
  cases x with
  |non=>cases rx;exact SeqAt.EqAt.bool_none a
  |bl b=>cases rx;exact SeqAt.EqAt.bool_bool a b
  |int b=>obtain⟨t,rfl⟩:=rx;exact SeqAt.EqAt.bool_int a b t
  |str b=>obtain⟨t,rfl⟩:=rx;exact SeqAt.EqAt.bool_str a b t
  |_=>exact absurd (show false=true from fx) YB
 |int a =>
  obtain⟨t',rfl⟩:=ry
  cases x with
  |non=>cases rx;exact SeqAt.EqAt.int_none a t'
  |bl b=>cases rx;exact SeqAt.EqAt.int_bool a t' b
  |int b=>obtain⟨t,rfl⟩:=rx;exact SeqAt.EqAt.int_int a t' b t
  |str b=>obtain⟨t,rfl⟩:=rx;exact SeqAt.EqAt.int_str a t' b t
  |_=>exact absurd (show false=true from fx) YB
 |str a =>
  obtain⟨t',rfl⟩:=ry
  cases x with
  |non=>cases rx;exact SeqAt.EqAt.str_none a t'
  |bl b=>cases rx;exact SeqAt.EqAt.str_bool a t' b
  |int b=>obtain⟨t,rfl⟩:=rx;exact SeqAt.EqAt.str_int a t' b t
  |str b=>obtain⟨t,rfl⟩:=rx;exact SeqAt.EqAt.str_str a t' b t
  |_=>exact absurd (show false=true from fx) YB
 |_=>exact absurd (show false=true from fy) YB
noncomputable def eqU (x:V) (u:Value):Bool:=match u with
 |.none=>eqV .non x
 |.bool b=>eqV (.bl b) x
 |.int i _=>eqV (.int i) x
 |.str z _=>eqV (.str z) x
 |_=>false
theorem ZoT {x y:V}{u:Value} (r:RelV y u) (f:flatV y=true):eqU x u=eqV y x:=by
 cases y with
 |non=>cases r;rfl
 |bl b=>cases r;rfl
 |int i=>obtain⟨t,rfl⟩:=r;rfl
 |str z=>obtain⟨t,rfl⟩:=r;rfl
 |_=>exact absurd (show false=true from f) YB
theorem ZfW {x:V}:∀{xs:List V}{us:List Value},Vals xs us->xs.all flatV=true->us.any (eqU x)=xs.any λy=>eqV y x
 |_,_,.nil,_=>rfl
 |y::xs,u::us,.cons r t,f=>by
  rw[List.all_cons,Bool.and_eq_true]at f
  rw[List.any_cons,List.any_cons,ZoT r f.1,ZfW t f.2]
theorem Zep {A:Around}{s:Shared}{x:V}{v:Value} (rx:RelV x v) (fx:flatV x=true):∀{xs:List V}{us:List Value},Vals xs us->xs.all flatV=true->∀u∈us,SeqAt.EqAt A s u v (eqU x u)
 |_,_,.nil,_=>λu hu=>by cases hu
 |y::xs,u::us,.cons r t,f=>λu' hu=>by
  rw[List.all_cons,Bool.and_eq_true]at f
  rcases Ym.mp hu with rfl|hu
  ·rw[ZoT r f.1];exact ZoS r rx f.1 fx
  ·exact Zep rx fx t f.2 u' hu
noncomputable def inV (x:V) (xs:List V):Bool:=xs.any λy=>eqV y x
noncomputable def rIn (K:PySem.W.Frag) (neg:Bool):R2:=λx y H Q=>∃p xs,y=.ref p/\(SqL K H p xs\/SqT K H p xs)/\flatV x=true/\xs.all flatV=true/\Q (.bl (if neg then !inV x xs else inV x xs)) H
theorem Zm8:OpR X (compareOp .In) (rIn X.K false):=by
 intro pins s σ H x y v u Q I rx ry h
 obtain⟨p,xs,rfl,hq,fx,fs,q⟩:=h
 cases ry
 rcases hq with hq|hq
 ·obtain⟨its,r,pl,hz⟩:=I.list hq
  refine SeqAt.in_listAt (eqU x) pl.isList (λw hw=>Zep rx fx r fs w (by simpa using hw)) ⟨.bl _,H,I,rfl,?_⟩
  rw[show its.toArray.any (eqU x)=its.any (eqU x) by simp,ZfW r fs]
  exact q
 ·obtain⟨its,r,pl,hz⟩:=I.tuple hq
  refine SeqAt.in_tupleAt (eqU x) pl (λw hw=>Zep rx fx r fs w (by simpa using hw)) ⟨.bl _,H,I,rfl,?_⟩
  rw[show its.toArray.any (eqU x)=its.any (eqU x) by simp,ZfW r fs]
  exact q
theorem Zjz:OpR X (compareOp .NotIn) (rIn X.K true):=by
 intro pins s σ H x y v u Q I rx ry h
 obtain⟨p,xs,rfl,hq,fx,fs,q⟩:=h
 cases ry
 rcases hq with hq|hq
 ·obtain⟨its,r,pl,hz⟩:=I.list hq
  refine SeqAt.notIn_listAt (eqU x) pl.isList (λw hw=>Zep rx fx r fs w (by simpa using hw)) ⟨.bl _,H,I,rfl,?_⟩
  rw[show its.toArray.any (eqU x)=its.any (eqU x) by simp,ZfW r fs]
  exact q
 ·obtain⟨its,r,pl,hz⟩:=I.tuple hq
  refine SeqAt.notIn_tupleAt (eqU x) pl (λw hw=>Zep rx fx r fs w (by simpa using hw)) ⟨.bl _,H,I,rfl,?_⟩
  rw[show its.toArray.any (eqU x)=its.any (eqU x) by simp,ZfW r fs]
  exact q
theorem ZjA:Zb4 X (.builtin "len") (λxs H Q=>∃p ys,xs=[.ref p]/\(SqL X.K H p ys\/SqT X.K H p ys)/\Q (.int ys.length) H):=by
 intro pins s σ H xs us Q I r h
 obtain⟨p,ys,rfl,hq,q⟩:=h
 obtain⟨u,rfl,rx⟩:=vals1 r
 cases rx
 have hn:=Zjw
 rcases hq with hq|hq
 ·obtain⟨its,r',pl,hz⟩:=I.list hq
  have hlen:=r'.length
  exact Calls.call_len_list pl.isList (by simp only[Yr]<;>omega) ⟨.int ys.length,H,I.tok _,⟨s.toks+1,by rw[Yr,hlen]⟩,q⟩
 ·obtain⟨its,r',pl,hz⟩:=I.tuple hq
  have hlen:=r'.length
  exact len_tuple pl (by simp only[Yr]<;>omega) ⟨.int ys.length,H,I.tok _,⟨s.toks+1,by rw[Yr,hlen]⟩,q⟩
theorem ZjB:Zb4 X (.type "list") (λxs H Q=>∃p ys,xs=[.ref p]/\(SqL X.K H p ys\/SqT X.K H p ys)/\∀l,H l=none->Q (.ref l) (upd H l (.lst ys))):=by
 intro pins s σ H xs us Q I r h
 obtain⟨p,ys,rfl,hq,q⟩:=h
 obtain⟨u,rfl,rx⟩:=vals1 r
 cases rx
 have fin:∀(its:List Value),Vals ys its->ys.length<=sizeLine->∀(h':Heap) (c':Nat),(∀b o',s.heap.get? b=some o'->h'.get? b=some o') ->
   h'.get? s.heap.objs.size=some {cls:=.type "list",dict:=none,data:=.seq its.toArray c',slots:=#[]}->EP X pins σ Q (.ref s.heap.objs.size) {s with heap:=h'}:=λits r' hz h' c' kp e =>
  ⟨.ref s.heap.objs.size,_,I.laid (t':=s.toks) kp (Yf _) (show Zaf X.prog X.w _ h' _ (.lst ys)from⟨hz,its,c',r',e⟩),rfl,q _ (I.hok.fresh (Yf _))⟩
 rcases hq with hq|hq
 ·obtain⟨its,r',pl,hz⟩:=I.list hq
  have hlen:=r'.length
  obtain⟨o,ho,hc,n,hd⟩:=pl.isList
  exact call_list_seq p (.inl rfl) ho hc hd (λh' c' kp e=>fin its r' hz h' c' kp e) (by simp only[Yr]<;>omega)
 ·obtain⟨its,r',pl,hz⟩:=I.tuple hq
  have hlen:=r'.length
  obtain⟨o,ho,hc,n,hd⟩:=pl
  exact call_list_seq p (.inr rfl) ho hc hd (λh' c' kp e=>fin its r' hz h' c' kp e) (by simp only[Yr]<;>omega)
theorem ZiA:Zb4 X (.type "tuple") (λxs H Q=>∃p ys,xs=[.ref p]/\((SqL X.K H p ys/\∀l,H l=none->Q (.ref l) (upd H l (.tup ys)))\/(SqT X.K H p ys/\Q (.ref p) H))):=by
 intro pins s σ H xs us Q I r h
 obtain⟨p,ys,rfl,h⟩:=h
 obtain⟨u,rfl,rx⟩:=vals1 r
 cases rx
 rcases h with⟨hq,q⟩|⟨hq,q⟩
 ·obtain⟨its,r',pl,hz⟩:=I.list hq
  have hlen:=r'.length
  refine call_tuple_list pl.isList (λh' kp=>?_) (by simp only[Yr]<;>omega)
  have I1:Inv X pins σ H {s with heap:=h'}:=I.kept (t':=s.toks) kp
  have I2:Inv X pins σ (upd H h'.objs.size (.tup ys)) {s with heap:=h'.push {cls:=.type "tuple",data:=.seq its.toArray}} :=
   I1.laid (t':=s.toks) (λb o e=>Yi _ e) (Yf _) (show Zaf X.prog X.w _ _ _ (.tup ys)from⟨hz,its,r',IsTup.new _ _⟩)
  exact⟨.ref h'.objs.size,_,I2,rfl,q _ (I1.hok.fresh (Yf _))⟩
 ·obtain⟨its,r',pl,hz⟩:=I.tuple hq
  exact call_tuple_same pl ⟨.ref p,H,I,rfl,q⟩
noncomputable def tyV (K:PySem.W.Frag) (T:String) (x:V) (H:Hp):Prop:=match x with
 |.str _=>T="str"
 |.int _=>T="int"
 |.ref p=>(T="list"/\∃xs,SqL K H p xs)\/(T="tuple"/\∃o,K.lookup p=some o/\o.cls=.type "tuple"/\o.dict=none) \/
   (T="dict"/\((∃kvs,H p=some (.dK kvs))\/∃kvs,H p=some (.dT kvs)))\/(T="set"/\∃S n,H p=some (.set S n))
 |_=>False
theorem tyV_is {pins:List (Addr×Obj)}{σ:St}{H:Hp}{s:Shared}{T:String}{x:V}{v:Value} (I:Inv X pins σ H s) (r:RelV x v) (ty:tyV X.K T x H) :
  s.TypeIs v T/\∀a,v=.ref a->∃ob,s.heap.get? a=some ob/\ob.dict=none:=by
 cases x with
 |str z =>
  obtain⟨t,rfl⟩:=r
  cases(show T="str" from ty)
  exact⟨typeIs_str s z t,λ_ e=>nomatch e⟩
 |int i =>
  obtain⟨t,rfl⟩:=r
  cases(show T="int" from ty)
  exact⟨typeIs_int s i t,λ_ e=>nomatch e⟩
 |ref p =>
  cases r
  rcases ty with⟨rfl,xs,hq⟩|⟨rfl,o,hk,hc,hd⟩|⟨rfl,hk⟩|⟨rfl,S,n,hk⟩
  ·obtain⟨its,_,pl,_⟩:=I.list hq
   refine⟨pl.isList.typeIs,λa e=>?_⟩
   cases e
   obtain⟨o,n,e,c,hd,_⟩:=pl
   exact⟨o,e,hd⟩
  ·refine⟨⟨o,I.kIn p o hk,hc⟩,λa e=>?_⟩
   cases e
   exact⟨o,I.kIn _ o hk,hd⟩
  ·have z:∃o,s.heap.get? p=some o/\o.ExactDict:=by
    rcases hk with⟨kvs,hk⟩|⟨kvs,hk⟩
    ·obtain⟨_,_,_,_,o,_,_,e,ex,_⟩:=I.hok p _ hk
     exact⟨o,e,ex⟩
    ·obtain⟨_,_,_,_,o,_,_,e,ex,_⟩:=I.hok p _ hk
     exact⟨o,e,ex⟩
   obtain⟨o,e,ex⟩:=z
   refine⟨⟨o,e,ex.1⟩,λa e2=>?_⟩
   cases e2
   exact⟨o,e,ex.2.1⟩
  ·obtain⟨o,_,_,_,e,ex,_⟩:=I.hok p _ hk
   refine⟨⟨o,e,ex.1⟩,λa e2=>?_⟩
   cases e2
   exact⟨o,e,ex.2.1⟩
 |_=>exact False.elim ty
noncomputable def tBM (K:PySem.W.Frag) (T:String) (r:V->List V->Hp->VK->Prop) (to:TE) (t:TA):TE:=fun σ H Q=>to σ H λx H1=>tyV K T x H1/\t σ H1 λxs H2=>r x xs H2 Q
variable {o e:Expr}{es:List Expr}{to:TE}{t:TA}{name:Str}{apos cpos:Pos}{T id:String}{r:V->List V->Hp->VK->Prop}
theorem Zd7 (pa:PlainAttrs T) (slot:Slot T name id) (hty:typeOf (.builtin id)=pure (.type "method_descriptor")) (hm:MtR X id r) (ho:PE X o to) (ha:PA X (e::es) t)
  (hbase:attributeBase o name X.env (eval o X.env)=eval o X.env:=by rfl)
  (hfew:((backTo cpos (starEach (e::es) X.env)).all (λx=>!x.1)&&(backToKw cpos (keywordEach [] X.env)).all (λx=>x.1.isSome)
   && decide ((e::es).length+([]:List Keyword).length+(if ([]:List Keyword).isEmpty then 0 else 1)<30))=true:=by rfl)
  (hline:(apos.endLine==cpos.line)=true:=by rfl) (hs:starEach (e::es) X.env=(false,eval e X.env)::starEach es X.env:=by rfl) (hplain:(backTo cpos (starEach es X.env)).any (·.1)=false:=by rfl) :
  PE X (.Call (.Attribute o name apos) (e::es) [] cpos) (tBM X.K T r to t):=by
 intro pins s σ H Q I h
 refine wpAny_Call_method_late hbase hfew hline rfl (thn (ho pins s σ H _ I h) λv s1 ⟨x,H1,I1,r1,ty,q1⟩=>?_)
 obtain⟨h1,h2⟩:=tyV_is I1 r1 ty
 refine⟨T,id,pa,slot,hty,h1,h2,?_⟩
 have hA:=ha cpos pins s1 σ H1 _ I1 q1
 rw[hs]at hA⊢
 refine Calls.callWith_builtin (by show(false||(backTo cpos (starEach es X.env)).any (·.1))=false;rw[hplain]<;>rfl) (Calls.evalArgs_plain ?_)
 exact thn hA λus s2 ⟨vs,H2,I2,r2,q2⟩=>hm pins s2 σ H2 x vs v us Q I2 r1 r2 q2
end
noncomputable def MtM (X:Cx) (id:String) (r:V->List V->Hp->VK->Prop):Prop :=
 ∀(pins:List (Addr×Obj)) (s:Shared) (σ:St) (H:Hp) (x:V) (xs:List V) (v:Value) (us:List Value) (Q:VK),Inv X pins σ H s->RelV x v->Vals xs us->r x xs H Q ->
  wpAny (model X.prog X.w) X.A (call (.builtin id) (v::us)) (EP X pins σ Q) X.xe s
theorem Vals.one:∀{x:V}{us:List Value},Vals [x] us->∃u,us=[u]/\RelV x u
 |_,_,.cons r .nil=>⟨_,rfl,r⟩
theorem Vals.two:∀{x y:V}{us:List Value},Vals [x,y] us->∃u v,us=[u,v]/\RelV x u/\RelV y v
 |_,_,_,.cons r (.cons q .nil)=>⟨_,_,rfl,r,q⟩
theorem Vals.rep {xs:List V}{us:List Value} (h:Vals xs us):∀k:Nat,Vals (List.replicate k xs).flatten (List.replicate k us).flatten
 |0=>.nil
 |k+1=>by
  rw[List.replicate_succ,List.replicate_succ,List.flatten_cons,List.flatten_cons]
  exact Vals.append h (Vals.rep h k)
theorem foldl_rep (its:List Value):∀(k:Nat) (acc:List Value),
  List.foldl (λx1 x2=>x1++x2) acc.toArray (List.replicate k its.toArray)=(acc++(List.replicate k its).flatten).toArray
 |0,acc=>by simp
 |k+1,acc=>by
  have e:acc.toArray++its.toArray=(acc++its).toArray:=by simp
  have e2:(acc++its)++(List.replicate k its).flatten=acc++(List.replicate (k+1) its).flatten:=by
   rw[List.replicate_succ,List.flatten_cons,YI]
  rw[<-e2,<-foldl_rep its k (acc++its),<-e,List.replicate_succ,List.foldl_cons]
section
variable {X:Cx}{pins:List (Addr×Obj)}{σ:St}{H:Hp}{s:Shared}{l b:Addr}{xs ys zs:List V}
theorem Inv.lset {its its':List Value}{n:Nat}{f:Array Value->Array Value}{t':Nat} (I:Inv X pins σ H s) (hH:H l=some (.lst xs))
  (e:s.heap.get? l=some {cls:=.type "list",data:=.seq its.toArray n}) (hf:f its.toArray=its'.toArray) (hv:Vals ys its') (hz:ys.length<=sizeLine) :
  Inv X pins σ (upd H l (.lst ys)) {s with heap:=s.heap.update l (Obj.mapSeq f),toks:=t'}:=by
 have q:=PySem.IsL.update e f
 rw[hf]at q
 refine I.write (x:=l) (e:=l) (by rw[hH];exact trivial) (.inl rfl) (λb' u hb hu=>(Heap.get?_update_other s.heap (Obj.mapSeq f) (Ne.symm hb)).trans hu) ⟨_,q⟩ ?_
 exact⟨hz,its',_,hv,q⟩
theorem Inv.lnew {its:List Value}{t':Nat} (I:Inv X pins σ H s) (hv:Vals ys its) (hz:ys.length<=sizeLine) :
  Inv X pins σ (upd H s.heap.objs.size (.lst ys)) {s with heap:=s.heap.push {cls:=.type "list",data:=.seq its.toArray},toks:=t'} :=
 I.laid (λ_ _ q=>Yi _ q) (Yf _) ⟨hz,its,0,hv,Yv _ rfl⟩
theorem Inv.fresh (I:Inv X pins σ H s):H s.heap.objs.size=none:=I.hok.fresh (Yf _)
theorem Inv.Zly (I:Inv X pins σ H s) (hH:H l=some (.lst xs)):xs.length<=sizeLine/\∃(its:List Value) (n:Nat),Vals xs its/\xs.length=its.length/\s.heap.get? l=some {cls:=.type "list",data:=.seq its.toArray n}:=by
 obtain⟨z,its,n,r,e⟩:=I.hok l _ hH
 exact⟨z,its,n,r,r.length,e⟩
theorem ZoU {n:Nat} (h:n<=sizeLine):Builtin.List.listTooLong n=false:=by
 unfold Builtin.List.listTooLong
 exact YJ (by omega)
end
section
variable {X:Cx}
noncomputable def ZjC:V->List V->Hp->VK->Prop:=λx vs H Q=>∃l xs y,x=.ref l/\vs=[y]/\H l=some (.lst xs)/\xs.length<sizeLine/\Q .non (upd H l (.lst (xs++[y])))
theorem Zay:MtM X "list.append" ZjC:=by
 intro pins s σ H x vs v us Q I rx rv h
 obtain⟨l,xs,y,rfl,rfl,hH,hz,q⟩:=h
 cases rx
 obtain⟨u,rfl,ru⟩:=rv.one
 obtain⟨z,its,n,r,hl,e⟩:=I.Zly hH
 refine call_meets F.slot_list_append ⟨_,e,rfl⟩ F.entry_list_append (F.args_list_append_2 _ _) (PySem.list_append l its.toArray n u (by rw[Yr];omega)) ⟨e,?_⟩
 refine⟨.non,_,I.lset (its':=its++[u]) hH e (by simp) (r.append (.cons ru .nil)) ?_,rfl,q⟩
 rw[YL,List.length_singleton]
 omega
noncomputable def rCat:R2:=λx y H Q=>∃l b xs zs,x=.ref l/\y=.ref b/\H l=some (.lst xs)/\H b=some (.lst zs)/\xs.length+zs.length<=sizeLine/\∀p,H p=none->Q (.ref p) (upd H p (.lst (xs++zs)))
theorem ZoV:OpR X (binaryOp .Add) rCat:=by
 intro pins s σ H x y v u Q I rx ry h
 obtain⟨l,b,xs,zs,rfl,rfl,hH,hB,hz,q⟩:=h
 cases rx
 cases ry
 obtain⟨z,its,n,r,hl,e⟩:=I.Zly hH
 obtain⟨z2,its2,n2,r2,hl2,e2⟩:=I.Zly hB
 refine PySem.P.add_list e e2 ?_ (by rw[Yr,Yr];omega)
 have ea:its.toArray++its2.toArray=(its++its2).toArray:=by simp
 rw[ea]
 exact⟨.ref _,_,I.lnew (t':=s.toks) (r.append r2) (by rw[YL];omega),rfl,q _ I.fresh⟩
noncomputable def rRep:R2:=λx y H Q=>∃l k xs,x=.ref l/\y=.int k/\H l=some (.lst xs)/\-(2 ^ 63)<=k/\k<2 ^ 63/\xs.length*k.toNat<=sizeLine /\
 ∀p,H p=none->Q (.ref p) (upd H p (.lst (List.replicate k.toNat xs).flatten))
theorem len_rep {α:Type} (xs:List α) (k:Nat):(List.replicate k xs).flatten.length=k*xs.length:=by
 induction k with
 |zero=>simp
 |succ k ih=>rw[List.replicate_succ,List.flatten_cons,YL,ih,Nat.succ_mul,Nat.add_comm]
theorem op_rep:OpR X (binaryOp .Mult) rRep:=by
 intro pins s σ H x y v u Q I rx ry h
 obtain⟨l,k,xs,rfl,rfl,hH,h1,h2,hz,q⟩:=h
 cases rx
 obtain⟨t,rfl⟩:=ry
 obtain⟨z,its,n,r,hl,e⟩:=I.Zly hH
 have hlen:its.toArray.size*k.toNat<=sizeLine:=by rw[Yr,<-hl];exact hz
 have hcap:¬ its.toArray.size*k.toNat>(2 ^ 63-1) / 8:=by
  have:(sizeLine:Nat)<=(2 ^ 63-1) / 8:=by decide
  omega
 have hfit:¬ (!Builtin.List.listFitsIndex k)=true:=by
  rw[fitsIndex_both h1 h2]
  exact YB
 have hlong:¬ Builtin.List.listTooLong (its.toArray.size*k.toNat)=true:=by
  rw[ZoU hlen]
  exact YB
 have hnew:List.foldl (λx1 x2=>x1++x2) #[] (List.replicate (if its.toArray.isEmpty=true then 0 else k.toNat) its.toArray)=(List.replicate k.toNat its).flatten.toArray:=by
  have f0:∀m:Nat,List.foldl (λx1 x2=>x1++x2) #[] (List.replicate m its.toArray)=(List.replicate m its).flatten.toArray:=λm=>by
   have:=foldl_rep its m []
   rw[List.nil_append]at this
   exact this
  rw[f0]
  cases its with
  |nil=>simp
  |cons a r'=>rw[Yb (by simp)]
 refine wpAny_binaryOp_repeat_ref (T:="list") (U:="int") (by decide) ⟨_,e,rfl⟩ (λs'=>typeIs_int s' k t) noFill_list_mul F.fills_int_mul F.slot_int_rmul repeat_list F.slot_int_index.lookup
  (call_meets F.slot_int_rmul (typeIs_int s k t) F.entry_int_rmul (F.args_int_rmul_2 _ _) (int___rmul___int_list k t l its.toArray n)
   ⟨e,rfl,⟨_,e,rfl⟩,call_meets F.slot_list_mul ⟨_,e,rfl⟩ F.entry_list_mul (F.args_list_mul_2 _ _) (AutoListH.list___mul___list_int_3 l its.toArray n k t hfit hcap hlong) ⟨e,?_⟩⟩)
 rw[hnew]
 exact⟨.ref _,_,I.lnew (t':=s.toks) (r.rep k.toNat) (by rw[len_rep,Nat.mul_comm];exact hz),rfl,q _ I.fresh⟩
end
end L2
namespace Att
open PySem PySem.W PySem.Calls PyProof.Rows
theorem Zhi {P:Params}{h:Heap}:∀(ns:List Int) (vs:List Value),WellAll P h vs (ns.map WData.int)->IntsAre vs ns:=by
 intro ns
 induction ns with
 |nil =>
  intro vs w
  rw[List.map_nil]at w
  cases w
  exact .nil
 |cons n ns ih =>
  intro vs w
  rw[YO]at w
  cases w with
  |cons a b =>
   cases a
   exact .cons _ _ (ih _ b)
theorem Zm9 {l:OpenLaw}{n:Nat} (hn:l.most=some n) {P:Params}{h:Heap}{args:List WData}{vals:List Value}
  (hpre:l.row.toRowW.claim.pre args=true) (hwl:WellAll P h vals args) :
  ∃a vs ns,vals=[Value.ref a]/\args=[WData.list (ns.map WData.int)]/\h.get? a=some {cls:=.type "list",data:=.seq vs.toArray}/\IntsAre vs ns/\ns.length<=n:=by
 have hsh:WShape.hasAll [] args [.list .int]=true:=(pre_splitW hpre).1
 have hc:l.pre.holds [] {args:=args}=true:=(pre_splitW hpre).2
 obtain⟨d,r,rfl,h1,h2⟩:=hasAllW_cons hsh
 obtain rfl:=hasAllW_nil h2
 obtain⟨xs,rfl,h3⟩:=hasW_list h1
 obtain⟨ns,rfl⟩:=items_int h3
 have hlen:ns.length<=n:=by
  unfold OpenLaw.pre at hc
  have h4:(WTm.not (.lt (.lit (.int (n:Int))) (.len (.arg 0)))).holds [] {args:=[.list (ns.map .int)]}=true:=by
   have h4:=(holds_andW hc).1
   rw[hn]at h4
   exact h4
  have h5:=condW_of h4 (w_not (w_lt w_lit (w_len_list (w_arg rfl))))
  rw[Yl]at h5
  refine Nat.le_of_not_lt λq=>?_
  have q':(n:Int)<((ns.length:Nat):Int):=by omega
  first
   |(rw[YC q']at h5;exact absurd h5 (by decide))
   |(simp at h5;omega)
 cases hwl with
 |cons w1 w2 =>
  cases w2
  cases w1 with
  |list ho hall=>exact⟨_,_,ns,rfl,rfl,ho,Zhi ns _ hall,hlen⟩
theorem Zna (l:OpenLaw) (args:List WData):l.row.toRowW.claim.post args (.bool true) args=true :=
 postW_of (r:=l.row.toRowW) (X:=(true==true))
  (show WShape.has [] (.bool true) .bool=true by first|rfl|decide|simp[WShape.has,WShape.arms,WShape.armsAll])
  (show(WTm.eq .res (.lit (.bool true))).value [] {args:=args,res:=some (.bool true),after:=args}=some (.bool (true==true))from w_eq_bool (w_res rfl) w_lit) rfl
theorem Zkv {l:OpenLaw}{n:Nat}{q:Program}{loose:List Str}{XP:(Str->Option Value)->Heap->Prop}{YP:World->Heap->Prop}{d:DefRec}
  (hn:l.most=some n) (hdf:d.params.defaults=[])
  (call:∀(w:World) (s₀ s₁:Shared) (mg mb:Str->Option Value) (fa:Addr) (o:Obj) (pm cd doc:Value) (a:Addr) (vs:List Value) (ns:List Int),
   Ground q loose [] XP w s₀ mg mb s₁.heap->YP w s₁.heap ->
   s₁.heap.get? fa=some o->o.data=.func (docDef d.name d.params d.body d.scope pm cd doc)->s₁.heap.CodeRec cd d.name->mg d.name=some (.ref fa) ->
   s₁.heap.get? a=some {cls:=.type "list",data:=.seq vs.toArray}->IntsAre vs ns->ns.length<=n->s₁.gens=#[] ->
   codeAny (model l.prog w) callerA (.call (.ref fa) ⟨[.ref a],[]⟩) (λr s'=>r=.ok (.ret (.bool true))/\OldK s₁.heap s'.heap/\s'.os=s₁.os/\AllBare s'.gens) s₁) :
  WalkO q loose XP YP l.row.toRowW d [] (λf vs=>PySem.call f vs):=by
 intro w s₀ s₁ mg mb G Y fa o pm cd doc dV kV ho hd hcd hD hmg hg args vals as hpre hlay hrd hwl hlo
 obtain rfl:dV=.none:=Dflts.none hD hdf
 obtain rfl:kV=.none:=Dflts.noKw hD
 obtain⟨a,vs,ns,rfl,rfl,hobj,hints,hlen⟩:=Zm9 hn hpre hwl
 refine enter_call (codeAny_mono (call w s₀ s₁ mg mb fa o pm cd doc a vs ns G Y ho (fd_plain hd) hcd hmg hobj hints hlen hg) λr s' hq=>?_)
 obtain⟨rfl,h2,h3,h4⟩:=hq
 exact⟨.inl ⟨.bool true,.bool true,[],rfl,λ_=>rfl,.bool true,Zna l _,λ_=>⟨List.Pairwise.nil,λ_ hm=>(nomatch hm)⟩⟩,h2,h3,h4⟩
end Att
namespace L2
open PySem PySem.Spec PyProof.Rows
theorem Zgz:∀{vs:List Value}{ns:List Int},IntsAre vs ns->Vals (ns.map V.int) vs
 |_,_,.nil=>.nil
 |_,_,.cons n t h=>.cons ⟨t,rfl⟩ (Zgz h)
noncomputable def defArgs (s:Stmt):Arguments:=match s with
 |.FunctionDef _ a _ _ _ _ _ _ _ _=>a
 |_=>{posonlyargs:=[],args:=[],vararg:=none,kwonlyargs:=[],kw_defaults:=[],kwarg:=none,defaults:=[]}
noncomputable def defBody (s:Stmt):List Stmt:=match s with
 |.FunctionDef _ _ b _ _ _ _ _ _ _=>b
 |_=>[]
noncomputable def defScope (s:Stmt):Scope:=match s with
 |.FunctionDef _ _ _ _ _ _ sc _ _ _=>sc
 |_=>{kind:=.function,names:=[],isGenerator:=false,isCoroutine:=false}
noncomputable abbrev E0:XK:=λ_ _ _=>False
structure Fun (K:PySem.W.Frag) (x qual:Str) (st:Stmt) (f:Addr) (fd:FuncData):Prop where
 ex:∃(oc:Value) (od:Option Addr) (kV doc pm:Value) (an:Option Addr) (cdv ct:Value) (osl:Array (Option Value)),
  fd=PySem.W.fnOf x qual (defArgs st) (defBody st) (defScope st) .none kV doc pm an cdv ct/\K.lookup f=some ⟨oc,od,.func fd,osl⟩/\PySem.W.codeIn K cdv qual=true
 kp:PySem.W.keepIn K (.ref f)=true
section
variable {P:Program}{w:World}{K:PySem.W.Frag}{mg:Str->Option Value}{base:Heap}
theorem Fun.binds {x qual:Str}{st:Stmt}{f:Addr}{fd:FuncData}{ps:List Str} (F:Fun K x qual st f fd)
  (h:∀(kV doc pm:Value) (an:Option Addr) (cdv ct:Value) (us:List Value),us.length=ps.length->bindArgs (PySem.W.fnOf x qual (defArgs st) (defBody st) (defScope st) .none kV doc pm an cdv ct) ⟨us,[]⟩=pure (ps.zip us)):Binds K fd ps []:=by
 obtain⟨oc,od,kV,doc,pm,an,cdv,ct,osl,rfl,lk,hcd⟩:=F.ex
 exact .all (h kV doc pm an cdv ct)
theorem ZG {x qual:Str}{st:Stmt}{f:Addr}{oc:Value}{od an:Option Addr}{osl:Array (Option Value)}{kV doc pm cdv ct:Value} (l:K.lookup f=some ⟨oc,od,.func (PySem.W.fnOf x qual (defArgs st) (defBody st) (defScope st) .none kV doc pm an cdv ct),osl⟩)
  (c:PySem.W.codeIn K cdv qual=true) (k:PySem.W.keepIn K (.ref f)=true):Fun K x qual st f (PySem.W.fnOf x qual (defArgs st) (defBody st) (defScope st) .none kV doc pm an cdv ct):=⟨⟨oc,od,kV,doc,pm,an,cdv,ct,osl,rfl,l,c⟩,k⟩
end
section
variable {X:Cx}
theorem pv (i:Nat) {x:Str}{pos:Pos} (hN:X.N[i]?=some x:=by rfl) (hv:Vis X.env.scope x:=by first|exact Or.inl rfl|exact Or.inr (Or.inl rfl)|exact Or.inr (Or.inr rfl)) (hd:(x==("__debug__":Str))=false:=by decide)
  (hcd:(x==("__classdict__":Str))=false:=by decide):PE X (.Name x pos) (Zlr i):=pe_var hN hv hd hcd
end
theorem ZF {c A B:Prop} [Decidable c] (h1:c->A) (h2:¬ c->B):if c then A else B:=by
 by_cases h:c
 ·rw[Yd h]
  exact h1 h
 ·rw[Yb h]
  exact h2 h
noncomputable def Zg (H H':Hp):Prop:=∀b o,H b=some o->H' b=some o
theorem Zg.refl (H:Hp):Zg H H:=λ_ _ h=>h
theorem Zg.trans {H H1 H2:Hp} (a:Zg H H1) (b:Zg H1 H2):Zg H H2:=λc o h=>b c o (a c o h)
theorem Zg.free {H H':Hp} (e:Zg H H') {l:Addr} (h:H' l=Option.none):H l=Option.none:=by
 cases q:H l with
 |none=>rfl
 |some o =>
  rw[e l o q]at h
  cases h
theorem Zg.seq {K:PySem.W.Frag}{H H':Hp}{a:Addr}{xs:List V} (e:Zg H H') (h:SqL K H a xs):SqL K H' a xs:=by
 rcases h with(h|⟨o,h⟩)|h
 ·exact .inl (.inl (e _ _ h))
 ·exact .inl (.inr ⟨o,e _ _ h⟩)
 ·exact .inr h
theorem Zdj {env:Env}:∀(names:List (Str×NameKind)) (cs0:List (Str×Addr)),(∀y∈names,y.2=.free->∃c,env.cells.lookup y.1=some c) ->
  ∃cl,(forIn names cs0 (λ(x:Str×NameKind) r=>(do
   match x with
   |(name,kind)=>if (kind==NameKind.free)=true then do let a <-cellOf env name;pure (ForInStep.yield ((name,a)::r))else pure (ForInStep.yield r)):_->_->Sem (ForInStep (List (Str×Addr)))))=pure cl /\
   (∀p∈cl,p∈cs0\/env.cells.lookup p.1=some p.2)/\(∀p∈cs0,p∈cl)/\(∀y∈names,y.2=.free->∃c,(y.1,c)∈cl)
 |[],cs0,_=>⟨cs0,rfl,λp h=>.inl h,λp h=>h,λy h=>by cases h⟩
 |(n,k)::r,cs0,h=>by
  by_cases hk:k=.free
  ·subst hk
   obtain⟨c,hc⟩:=h (n,.free) (.head _) rfl
   obtain⟨cl,e,h1,h2,h3⟩:=Zdj r ((n,c)::cs0) λy hy=>h y (.tail _ hy)
   refine⟨cl,?_,λp hp=>?_,λp hp=>h2 p (.tail _ hp),λy hy hf=>?_⟩
   ·rw[List.forIn_cons]
    have e1:cellOf env n=pure c:=by unfold cellOf;rw[hc]
    simp only[beq_self_eq_true,if_true,e1,pure_bind]
    exact e
   ·rcases h1 p hp with q|q
    ·rcases Ym.mp q with q|q
     ·subst q;exact .inr hc
     ·exact .inl q
    ·exact .inr q
   ·rcases Ym.mp hy with q|q
    ·subst q;exact⟨c,h2 _ (.head _)⟩
    ·exact h3 y q hf
  ·obtain⟨cl,e,h1,h2,h3⟩:=Zdj r cs0 λy hy=>h y (.tail _ hy)
   refine⟨cl,?_,h1,h2,λy hy hf=>?_⟩
   ·rw[List.forIn_cons]
    have e1:(k==NameKind.free)=false:=by cases k<;>first|rfl|exact absurd rfl hk
    simp only[e1,Bool.false_eq_true,if_false,pure_bind]
    exact e
   ·rcases Ym.mp hy with q|q
    ·subst q;exact absurd hf hk
    ·exact h3 y q hf
theorem ZhA {env:Env}{scope:Scope} (h:∀y∈scope.names,y.2=.free->∃c,env.cells.lookup y.1=some c) :
  ∃cl,closureFor scope env=pure cl/\(∀x c,cl.lookup x=some c->env.cells.lookup x=some c)/\(∀y∈scope.names,y.2=.free->∃c,cl.lookup y.1=some c/\env.cells.lookup y.1=some c):=by
 obtain⟨cl,e,h1,h2,h3⟩:=Zdj (env:=env) scope.names [] h
 have up:∀x c,cl.lookup x=some c->env.cells.lookup x=some c:=λx c q=>by
  rcases h1 _ (PySem.mem_of_lookup q)with z|z
  ·cases z
  ·exact z
 refine⟨cl,?_,up,λy hy hf=>?_⟩
 ·unfold closureFor
  simp only[bind_pure_comp]at e⊢
  rw[e]
  exact pure_bind _ _
 ·obtain⟨c,hc⟩:=h3 y hy hf
  cases q:cl.lookup y.1 with
  |none=>exact absurd (List.lookup_eq_none_iff.mp q _ hc) (by simp)
  |some c'=>exact⟨c',rfl,up _ _ q⟩
noncomputable def compOk (around scope:Scope):Bool :=
 scope.kind==.function&&around.kind==.function&&scope.names.all λy=>match y.2 with
  |.local=>scope.names.lookup y.1==some .local
  |.cell=>false
  |.free=>(scope.names.lookup y.1==some .free)&&(around.names.lookup y.1==some .cell||around.names.lookup y.1==some .free)
  |_=>true
theorem Zco {a s:Scope} (h:compOk a s=true):s.kind=.function:=by
 simp only[compOk,Bool.and_eq_true,beq_iff_eq]at h;exact h.1.1
theorem ZgA {a s:Scope} (h:compOk a s=true) {y:Str×NameKind} (hy:y∈s.names):(match y.2 with
  |.local=>s.names.lookup y.1==some .local
  |.cell=>false
  |.free=>(s.names.lookup y.1==some .free)&&(a.names.lookup y.1==some .cell||a.names.lookup y.1==some .free)
  |_=>true)=true:=by
 simp only[compOk,Bool.and_eq_true]at h
 exact List.all_eq_true.mp h.2 y hy
theorem ZjD {a s:Scope} (h:compOk a s=true):∀y∈s.names,y.2=.local->s.names.lookup y.1=some .local:=λy hy e=>by
 have q:=ZgA h hy
 rw[e]at q
 exact beq_iff_eq.mp q
theorem Zcp {a s:Scope} (h:compOk a s=true):∀y∈s.names,y.2≠.cell:=λy hy e=>by
 have q:=ZgA h hy
 rw[e]at q
 cases q
theorem Zcq {a s:Scope} (h:compOk a s=true):∀y∈s.names,y.2=.free->a.names.lookup y.1=some .cell\/a.names.lookup y.1=some .free:=λy hy e=>by
 have q:=ZgA h hy
 rw[e]at q
 simp only[Bool.and_eq_true,Bool.or_eq_true,beq_iff_eq]at q
 exact q.2
theorem Z1 {env:Env}:∀{names:List (Str×NameKind)}{x:Str}{k:NameKind},(names.map λ(n,k)=>if (k==NameKind.free&&env.scope.kind==.function&&env.kindOf n==some .cell)then (n,NameKind.cell)else (n,k)).lookup x=some k ->
  ∃k',names.lookup x=some k'/\(k=k'\/(k'=.free/\k=.cell))
 |[],_,_,h=>by simp at h
 |(n,k0)::r,x,k,h=>by
  by_cases hx:x=n
  ·subst hx
   refine⟨k0,by simp,?_⟩
   simp only[YO]at h
   split at h
   ·rename_i hc
    simp only[Bool.and_eq_true,beq_iff_eq]at hc
    simp only[List.lookup_cons_self,Option.some.injEq]at h
    exact .inr ⟨hc.1.1,h.symm⟩
   ·simp only[List.lookup_cons_self,Option.some.injEq]at h
    exact .inl h.symm
  ·have hb:(x==n)=false:=by simpa using hx
   simp only[YO]at h
   have e2:∀k1,((n,k1)::r).lookup x=r.lookup x:=λk1=>by simp[List.lookup_cons,hb]
   split at h<;>(simp only[List.lookup_cons,hb]at h;obtain⟨k',h1,h2⟩:=Z1 h;exact⟨k',by rw[e2];exact h1,h2⟩)
noncomputable def Zap (X:Cx) (Nc:List Str) (scope:Scope) (cl:List (Str×Addr)) (C:Addr) (s2:Shared) (H2:Hp) (fp:List Addr):Cx where
 prog:=X.prog
 w:=X.w
 K:=X.K
 mg:=X.mg
 base:=X.base
 A:=X.A
 N:=Nc
 s₀:=s2
 H₀:=H2
 env:=compEnvC scope cl C X.env
 outer:=X.stack
 stack:=X.stack
 ex:=fp
 fn:=λ_=>false
 calm:=X.calm
 pn:=[]
 xe:=λ_ _=>False
noncomputable def ZW (js:List (Option Nat)) (σ:St):St:=js.map λj=>match j with
 |none=>none
 |some i=>(σ[i]?).join
noncomputable def takesC (N Nc:List Str) (scope:Scope):List (Option Nat)->Nat->Bool
 |[],i=>i==Nc.length
 |none::r,i=>takesC N Nc scope r (i+1)
 |some j::r,i=>(match Nc[i]?,N[j]? with
  |some x,some y=>x==y&&scope.names.lookup x==some .free
  |_,_=>false)&&takesC N Nc scope r (i+1)
theorem Zb5 {N Nc:List Str}{scope:Scope}:∀{js:List (Option Nat)}{i:Nat},takesC N Nc scope js i=true->i+js.length=Nc.length
 |[],i,h=>by simpa[takesC]using h
 |none::r,i,h=>by
  have:=Zb5 (js:=r) (i:=i+1) (by simpa[takesC]using h)
  simp only[YM];omega
 |some j::r,i,h=>by
  simp only[takesC,Bool.and_eq_true]at h
  have:=Zb5 (js:=r) (i:=i+1) h.2
  simp only[YM];omega
theorem ZcY {N Nc:List Str}{scope:Scope}:∀{js:List (Option Nat)}{i k j:Nat},takesC N Nc scope js i=true->js[k]?=some (some j)->∃x,Nc[i+k]?=some x/\N[j]?=some x/\scope.names.lookup x=some .free
 |[],i,k,j,h,e=>by simp at e
 |none::r,i,0,j,h,e=>by simp at e
 |none::r,i,k+1,j,h,e=>by
  obtain⟨x,h1,h2,h3⟩:=ZcY (js:=r) (i:=i+1) (k:=k) (j:=j) (by simpa[takesC]using h) (by simpa using e)
  exact⟨x,by rw[<-h1];congr 1;omega,h2,h3⟩
 |some j0::r,i,0,j,h,e=>by
  simp only[takesC,Bool.and_eq_true]at h
  simp only[List.getElem?_cons_zero,Option.some.injEq]at e
  subst e
  cases e1:Nc[i]? with
  |none=>rw[e1]at h;simp at h
  |some x =>
   cases e2:N[j0]? with
   |none=>rw[e1,e2]at h;simp at h
   |some y =>
    rw[e1,e2]at h
    simp only[Bool.and_eq_true,beq_iff_eq]at h
    exact⟨x,by simpa using e1,by rw[h.1.1],h.1.2⟩
 |some j0::r,i,k+1,j,h,e=>by
  simp only[takesC,Bool.and_eq_true]at h
  obtain⟨x,h1,h2,h3⟩:=ZcY (js:=r) (i:=i+1) (k:=k) (j:=j) h.2 (by simpa using e)
  exact⟨x,by rw[<-h1];congr 1;omega,h2,h3⟩
section
variable {X:Cx}
theorem lookup_mem {names:List (Str×NameKind)}{x:Str}{k:NameKind} (h:names.lookup x=some k):(x,k)∈names:=PySem.mem_of_lookup h
theorem Zlz {pins:List (Addr×Obj)}{σ:St}{H2:Hp}{s2:Shared}{Nc:List Str}{js:List (Option Nat)}{scope:Scope}{cl:List (Str×Addr)}{fp:List Addr}{h1:Heap}{tk:Nat}{D C:Addr}{oD:Obj}{m:Str->Option Value}
  (I:Inv X pins σ H2 s2) (hok:compOk X.env.scope scope=true) (htk:takesC X.N Nc scope js 0=true) (up:∀x c,cl.lookup x=some c->X.env.cells.lookup x=some c) (hfr:∀y∈scope.names,y.2=.free->∃c,cl.lookup y.1=some c/\X.env.cells.lookup y.1=some c)
  (hfp:∀b∈fp,FpOk X pins H2 b) (hfl:∀b∈fp,b<s2.heap.objs.size) (hD:D=s2.heap.objs.size) (hC:C=s2.heap.objs.size+1) (old:∀b o,s2.heap.get? b=some o->h1.get? b=some o) (hns:h1.Ns C m) (hoD:h1.get? D=some oD) (hdD:∀v,oD.data≠.cell v) :
  Inv (Zap X Nc scope cl C s2 H2 fp) [(D,oD)] (ZW js σ) H2 {s2 with heap:=h1,toks:=tk}:=by
 have leC:s2.heap.objs.size<=C:=by rw[hC];exact YS _
 have leD:s2.heap.objs.size<=D:=Y5 hD.symm
 have kf:∀x,((compEnvC scope cl C X.env).kindOf x=some .cell\/(compEnvC scope cl C X.env).kindOf x=some .free)->∃c,cl.lookup x=some c/\X.env.cells.lookup x=some c:=λx hx=>by
  have:∃k,(compEnvC scope cl C X.env).kindOf x=some k/\(k=.cell\/k=.free):=hx.elim (λq=>⟨_,q,.inl rfl⟩) λq=>⟨_,q,.inr rfl⟩
  obtain⟨k,e,hk⟩:=this
  obtain⟨k',h1,h2⟩:=Z1 (show(scope.names.map _).lookup x=some k from e)
  have hm:=lookup_mem h1
  have:k'=.free:=by
   rcases h2 with q|q
   ·subst q
    rcases hk with q|q
    ·subst q;exact absurd rfl (Zcp hok _ hm)
    ·exact q
   ·exact q.1
  subst this
  exact hfr _ hm rfl
 have nC:∀c x,X.env.cells.lookup x=some c->c<s2.heap.objs.size:=λc x e=>by
  obtain⟨v,q⟩:=I.cell x c e
  exact q.lt
 have noB:∀b,b∈fp->b∉frs X.stack:=λb hb q=>by
  rcases Ym.mp (I.Zef b q)with z|z
  ·exact(hfp b hb).2.1 z
  ·exact(hfp b hb).2.2.1 z
 have okX:(Zap X Nc scope cl C s2 H2 fp).Ok:=by
  refine⟨I.ok.mod,(show scope.kind=.function from Zco hok),I.ok.glob,I.ok.blt,?_,λx y c e1 e2=>I.ok.inj x y c (up _ _ e1) (up _ _ e2),λx hx=>?_,(λx c e=>nomatch e),I.ok.hd,I.ok.frames,.inl rfl,λb hb=>⟨?_,λx c e=>(hfp b hb).2.2.2.2.1 x c (up _ _ e)⟩,I.bs,Yn I.ok.bsz I.sz,λb o e hb=>?_,λb hb=>noB b hb,I.stack,I.ZfR⟩
  ·show s2.heap.objs.size<=C;exact leC
  ·obtain⟨c,q,_⟩:=kf x hx;exact⟨c,q⟩
  ·exact Yo (Ys (hfl b hb) leC)
  ·rcases(hfp b hb).2.2.2.1 with q|q
   ·exact I.ok.noex b o e q
   ·exact absurd (Ys (Yj e) (Yn I.ok.bsz q)) (YA _)
 refine⟨okX,rfl,I.bare,Un.kept old,⟨m,hns,λi x v e1 e2 e3=>?_⟩,λx c e=>?_,I.hok.fresh leC,λx c e=>I.freeC x c (up _ _ e),λp hp=>?_,I.hok.kept old,?_⟩
 ·have e2':(ZW js σ)[i]?=some (some v):=e2
  unfold ZW at e2'
  rw[YH]at e2'
  cases q:js[i]? with
  |none=>rw[q]at e2';cases e2'
  |some j0 =>
   cases j0 with
   |none=>rw[q]at e2';cases e2'
   |some j =>
    rw[q]at e2'
    simp only[Option.map_some,Option.some.injEq]at e2'
    have e4:σ[j]?=some (some v):=by
     cases z:σ[j]? with
     |none=>rw[z]at e2';cases e2'
     |some o=>rw[z]at e2';simp only[Option.join_some]at e2';rw[e2']
    obtain⟨y,y1,y2,y3⟩:=ZcY htk q
    rw[Nat.zero_add]at y1
    have:x=y:=YD ((show Nc[i]?=some x from e1).symm.trans y1)
    subst this
    have hm:=lookup_mem y3
    obtain⟨c,c1,c2⟩:=hfr _ hm rfl
    have hk:=Zcq hok _ hm rfl
    obtain⟨m0,hn0,hl0⟩:=I.loc
    obtain⟨u,r,l⟩:=hl0 j x v y2 e4 (hk.elim (λz=>.inr (.inl z)) λz=>.inr (.inr z))
    refine⟨u,r,.inr ⟨?_,c,c1,?_⟩⟩
    ·rcases e3 with z|z|z
     ·obtain⟨k',w1,w2⟩:=Z1 (show(scope.names.map _).lookup x=some NameKind.local from z)
      rw[y3]at w1;cases w1
      rcases w2 with w|w
      ·cases w
      ·cases w.2
     ·exact .inl z
     ·exact .inr z
    ·rcases l with⟨lk,_⟩|⟨_,c',c3,c4⟩
     ·rcases hk with z|z
      ·rw[show X.env.kindOf x=some .cell from z]at lk;cases lk
      ·rw[show X.env.kindOf x=some .free from z]at lk;cases lk
     ·rw[c2]at c3;cases c3
      obtain⟨oc,w1,w2⟩:=c4
      exact⟨oc,old _ _ w1,w2⟩
 ·obtain⟨v,oc,w1,w2⟩:=I.cell x c (up _ _ e)
  exact⟨v,oc,old _ _ w1,w2⟩
 ·have:p=(D,oD):=by
   have hp':p∈([]++[(D,oD)]:List (Addr×Obj)):=hp
   simpa using hp'
  subst this
  refine⟨hoD,I.hok.fresh leD,(by show D≠C;rw[hD,hC];exact Yo (Nat.lt_succ_self _)),λhb=>?_,hdD⟩
  have hb':D∈frs X.stack:=hb
  obtain⟨_,o,ho,_⟩:=I.stack.mem hb'
  exact absurd (Ys (Yj ho) leD) (YA _)
 ·have:=Zb5 htk
  show(ZW js σ).length=Nc.length
  unfold ZW;rw[Yl];omega
theorem Zeq {prog:Program}{w:World}{A:Around}{R:Result->Shared->Prop}{s:Shared}{elt target iter:Expr}{ifs:List Expr}{scope:Scope}{pos:Pos}{it acc:Value}{env:Env} (I:Nat->Shared->Prop)
  (turn:∀n s,I n s->wpAny (model prog w) A (pyNext it) (λr s₁=>match r with
   |none=>R (.ok .next) s₁
   |some v=>wpAny (model prog w) A (letOwnedTupleGo target it v) (λ_ s₁=>wpAny (model prog w) A (assign target env v) (λ_ s₂ =>
     wpAny (model prog w) A (forIn ifs true λc r=>if r=true then do let ok <-isTrue c env (eval c env);pure (ForInStep.yield ok)else pure (ForInStep.yield r)) (λok s₃ =>
      if ok=true then wpAny (model prog w) A (eval elt env) (λx s₄ =>
       wpAny (model prog w) A (call (.builtin "list.append") [acc,x]) (λ_ s₅=>∃m,m<n/\I m s₅) (λ_ _=>False) s₄) (λ_ _=>False) s₃
      else ∃m,m<n/\I m s₃) (λ_ _=>False) s₂) (λ_ _=>False) s₁) (λ_ _=>False) s₁) (λ_ _=>False) s)
  (n:Nat) (h:I n s) :
  codeAny (model prog w) A (.compLoop (.ListComp elt [⟨target,iter,ifs,0⟩] scope pos) 0 it acc env) R s:=by
 refine codeAny_loop rfl I (λn s hI=>?_) n h
 show wpAny _ A ((compTurn (.ListComp elt [⟨target,iter,ifs,0⟩] scope pos) 0 it acc env).onRaise (λx=>do noteFrame x env;theTreesLotGoes x)) _ _ s
 refine wpAny_noted ?_
 rw[compTurn_list]
 refine Ya (wpAny_standAt (Ya (Yu (turn n s hI) (λr s₁ h₁=>?_) λ_ _ h'=>h'.elim)))
 cases r with
 |none=>exact Yc h₁
 |some v =>
  refine Ya (Yu h₁ (λ_ s₁' h₁=>?_) λ_ _ h'=>h'.elim)
  refine Ya (Yu h₁ (λ_ s₂ h₂=>Ya (Yu h₂ (λok s₃ h₃=>?_) λ_ _ h'=>h'.elim)) λ_ _ h'=>h'.elim)
  cases ok with
  |false=>exact Yc ⟨rfl,h₃⟩
  |true =>
   exact Ya (Ya (Yu h₃ (λx s₄ h₄=>Ya (Yu h₄ (λ_ s₅ h₅=>Yc (Yc ⟨rfl,h₅⟩)) λ_ _ h'=>h'.elim)) λ_ _ h'=>h'.elim))
noncomputable def Zhj (X:Cx) (ifs:List Expr) (t:TT):Prop :=
 ∀(pins:List (Addr×Obj)) (s:Shared) (σ:St) (H:Hp) (Q:Bool->Hp->Prop),Inv X pins σ H s->t σ H Q ->
  wpAny (model X.prog X.w) X.A (forIn ifs true λc r=>if r=true then do let ok <-isTrue c X.env (eval c X.env);pure (ForInStep.yield ok)else pure (ForInStep.yield r)) (TP X pins σ Q) X.xe s
noncomputable def tYes:TT:=λ_ H Q=>Q true H
theorem Zaa:Zhj X [] tYes:=λpins s σ H Q I h=>wpAny_tests_nil ⟨H,I,h⟩
theorem ZcZ {c:Expr}{t:TT} (h:PT X c t):Zhj X [c] t:=λpins s σ H Q I hq=>wpAny_tests_one (h pins s σ H Q I hq)
noncomputable def Zby (L:List Nat) (σ σ':St):Prop:=σ'.length=σ.length/\∀k,k∉L->σ'[k]?=σ[k]?
noncomputable def Zff (g:TG) (L:List Nat):Prop:=∀v σ H (Q Q':St->Hp->Prop),(∀σ' H',Zby L σ σ'->Q σ' H'->Q' σ' H')->g v σ H Q->g v σ H Q'
noncomputable def ZjE (g:TGs) (L:List Nat):Prop:=∀v σ H (Q Q':St->Hp->Prop),(∀σ' H',Zby L σ σ'->Q σ' H'->Q' σ' H')->g v σ H Q->g v σ H Q'
theorem Zby.refl {L:List Nat}{σ:St}:Zby L σ σ:=⟨rfl,λ_ _=>rfl⟩
theorem Zby.trans {L L':List Nat}{a b c:St} (x:Zby L a b) (y:Zby L' b c):Zby (L++L') a c :=
 ⟨y.1.trans x.1,λk hk=>(y.2 k λz=>hk (Yk _ z)).trans (x.2 k λz=>hk (YG _ z))⟩
theorem Zy {i:Nat}:Zff (Zfe i) [i]:=λv σ H Q Q' hq h=>hq _ _ ⟨by simp,λk hk=>by
 rw[List.getElem?_set_ne]
 intro z;subst z;exact hk (by simp)⟩ h
theorem ZhB:ZjE gNil []:=λv σ H Q Q' hq h=>⟨h.1,hq _ _ Zby.refl h.2⟩
theorem ZbW {t:TG}{u:TGs}{L L':List Nat} (h1:Zff t L) (h2:ZjE u L'):ZjE (Zmn t u) (L++L'):=λv σ H Q Q' hq h=>by
 obtain⟨x,r,e,h⟩:=h
 exact⟨x,r,e,h1 _ _ _ _ _ (fun σ' H' k1 q=>h2 _ _ _ _ _ (fun σ2 H2 k2 q2=>hq _ _ (k1.trans k2) q2) q) h⟩
theorem ZhC {K:PySem.W.Frag}{n:Nat}{t:TGs}{L:List Nat} (h:ZjE t L):Zff (gTup K n t) L:=λv σ H Q Q' hq q=>by
 obtain⟨a,xs,e1,e2,e3,q⟩:=q
 exact⟨a,xs,e1,e2,e3,h _ _ _ _ _ hq q⟩
noncomputable def Zmx (wi:TI) (g:TG) (tt:TT) (te:TE) (js:List (Option Nat)):TE:=fun σ H Q=>wi σ H λJ H1=>∃W:Nat->Nat->List V->Hp->Prop,(∃m,W 0 m [] H1)/\∀i m acc H,W i m acc H ->
 (J.stop i H/\acc.length<=sizeLine/\∀p,H p=none->Q (.ref p) (upd H p (.lst acc))) \/
 (J.go i H/\acc.length<sizeLine/\∀x H',J.yld i H x H'->g x (ZW js σ) H' fun σ2 H2=>tt σ2 H2 λb H3=>if b=true then te σ2 H3 λv H4=>∃m',m'<m/\W (i+1) m' (acc++[v]) H4 else ∃m',m'<m/\W (i+1) m' acc H3)
theorem ZfX {C:Addr}{h:Heap}:Heap.SameBut C h h:=by
 first|exact Heap.SameBut.refl|exact⟨rfl,λ_ _=>rfl⟩
end
end L2
namespace L2
open PySem PySem.Spec PyProof.Rows PySem.W PySem.Builtin.ObjectAttr PySem.Builtin.Getset_descriptor
noncomputable def Zkw (x C:Addr) (h:Heap):Prop:=∃o,h.get? x=some o/\o.cls=.ref C
structure ExK (K:Frag) (C:Addr):Prop where
 dk:hasDictIn K C=true
 ga:findIn K (.ref C) "__getattribute__"=some (some (.builtin "BaseException.__getattribute__"))
 gt:findIn K (.ref C) "__getattr__"=some none
 cl:findIn K (.ref C) "__class__"=some (some (.builtin "object.__class__"))
 gg:specialIn K (.builtin "object.__class__") "__get__"=some (some (.builtin "getset_descriptor.__get__"))
 tk:takesIn K (.builtin "object.__class__")=some true
 mo:mroIn K C (.type "object")=some true
 mb:mroIn K C (.type "BaseException")=some true
section
variable {K:Frag}{x C:Addr}
theorem Zkw.type {M:Model}{h:Heap} (I:Zkw x C h):Looks M h (typeOf (.ref x)) (.ref C):=by
 obtain⟨o,e,c⟩:=I
 exact c▸(Looks.ld e).andThen .now
theorem ZoW {M:Model}{h:Heap} (X:K.In h) (Z:ExK K C):Looks M h (find (.ref x) (.ref C) "__class__") (.bind (.builtin "getset_descriptor.__get__") (.builtin "object.__class__")):=by
 have L3:=looks_takesIn (M:=M) X Z.tk
 exact(looks_findIn (M:=M) X Z.cl).andThen ((looks_specialIn X Z.gg).andThen
  ((show Looks M h (dataDescriptor? (some (.builtin "object.__class__")) (some (.builtin "getset_descriptor.__get__"))) (some (.builtin "getset_descriptor.__get__",.builtin "object.__class__"))from L3.andThen .now).andThen (Looks.tag .now)))
theorem Zro {prog:Program}{w:World}{A:Around}{R:Result->Shared->Prop}{s:Shared}{tp:Value} (X:K.In s.heap) (I:Zkw x C s.heap) (Z:ExK K C) (hR:R (.ok (.ret (.ref C))) s) :
  codeAny (model prog w) A (.call (.builtin "getset_descriptor.__get__") ⟨[.builtin "object.__class__",.ref x,tp],[]⟩) R s:=by
 obtain⟨hp,gn,dw,tk,os⟩:=s
 have L0:=I.type (M:=model prog w)
 have L1:=looks_mroIn (M:=model prog w) X Z.mo
 refine codeAny_call_builtin KF.slot_gs.plain KF.entry_gs (KF.slot_gs.check _ _ _ _ _ _ _ _ KF.type_class (KF.args_gs _ _ _) ?_)
 unfold Builtin.«getset_descriptor.__get__» descrGet;rw[dga_obj];refine Ya (Yc ?_)
 unfold descrGetter descrCheckInstance descrNameAndClass isInstance;simp only[KF.owner_class]
 repeat lk
 refine⟨Code.quiet_builtin _ (by decide +kernel),codeAny_builtin KF.entry_class ?_⟩;unfold Builtin.«object.__class__» shownTypeOf
 repeat lk
 exact hR
theorem Znb {prog:Program}{w:World}{A:Around}{E:Value->Shared->Prop}{s:Shared}{tk:Tok}{Q:Fin->Shared->Prop} (X:K.In s.heap) (I:Zkw x C s.heap) (Z:ExK K C) (hQ:Q (.done (.ret (.ref C))) s) :
  wpAny (model prog w) A (Builtin.«object.__getattribute__» ⟨[.ref x,.str "__class__" tk],[]⟩) Q E s:=by
 obtain⟨hp,gn,dw,t,os⟩:=s
 have L0:=I.type (M:=model prog w)
 have L2:=ZoW (M:=model prog w) (x:=x) X Z
 unfold Builtin.«object.__getattribute__»
 refine Ya (Yc (Ya (Yc (Ya (L0.at (Ya (L2.at ?_)))))))
 show wpAny _ _ (holding _ (call _ _) >>= ret) _ _ _
 exact Ya (wpAny_holding (wpAny_call (Zro (s:=⟨hp,gn,dw,t,os⟩) X I Z (Yc hQ))))
theorem Znc {M:Model}{A:Around}{E:Value->Shared->Prop}{s:Shared}{nameV:Value}{Q:Unit->Shared->Prop} (X:K.In s.heap) (I:Zkw x C s.heap) (Z:ExK K C) (hq:Q () s) :
  wpAny M A (checkBuiltinCall "BaseException.__getattribute__" ⟨[.ref x,nameV],[]⟩) Q E s:=by
 obtain⟨hp,gn,dw,t,os⟩:=s
 have hk:builtinKind "BaseException.__getattribute__"=some .slot:=by decide +kernel
 have hsplit:splitId "BaseException.__getattribute__"=some ("BaseException","__getattribute__"):=by decide +kernel
 have L0:=I.type (M:=M)
 have L1:=looks_mroIn (M:=M) X Z.mb
 have ha:=F.args_bexc_ga (.ref x) nameV
 simp only[checkBuiltinCall,hk,hsplit]
 refine Ya ?_
 unfold isInstance
 refine Ya (L0.at (L1.at ?_))
 repeat (first|assumption|wp_step)
theorem Znd {prog:Program}{w:World}{A:Around}{E:Value->Shared->Prop}{s:Shared}{Q:Option Value->Shared->Prop} (X:K.In s.heap) (I:Zkw x C s.heap) (Z:ExK K C) (hQ:Q (some (.ref C)) {s with toks:=s.toks+1}) :
  wpAny (model prog w) A (getAttr? (.ref x) "__class__") Q E s:=by
 obtain⟨hp,gn,dw,tk,os⟩:=s
 have L0:=I.type (M:=model prog w)
 have L1:=looks_findIn (M:=model prog w) X Z.ga
 have L3:=looks_findIn (M:=model prog w) X Z.gt
 have hb:=(F.attrBase_ValueError.ga).bind (.ref x)
 unfold getAttr? getAttrBy? getAttrBy;refine Ya (wpAny_mkText (Ya (wpAny_attempt (wpAny_holding (Ya (L0.at (Ya (L1.at ?_))))))))
 show wpAny _ _ (getAttrByItsOwn _ _ _ _ _ _) _ _ _
 unfold getAttrByItsOwn hookBefore
 refine Ya (L3.at ?_)
 refine Ya (wpAny_attempt (wpAny_holding ?_))
 unfold callGetattribute
 show wpAny _ _ (boundAndCalled _ _ _) _ _ _
 unfold boundAndCalled
 rw[hb]
 refine Ya (Yc ?_)
 refine wpAny_call ?_
 refine codeAny_call_builtin F.attrBase_ValueError.ga.plain F.entry_bexc_ga (Znc (s:=⟨hp,gn,dw,tk+1,os⟩) X I Z (Znb (s:=⟨hp,gn,dw,tk+1,os⟩) X I Z ?_))
 exact handed_on rfl (Yc hQ)
theorem Zrp (Z:ExK K C):KitX K (.ref x) (.ref C) (Zkw x C) where
 ty:=λ_ _ _ I=>I.type
 it:=λ_ _ X _=>by
  obtain⟨cdD,hcD,_⟩:=any_some Z.dk
  unfold clsIn at hcD
  split at hcD
  ·rename_i c' d' cd' sl' ho
   intro A' Q' E' s' k q
   unfold isType loadHead;exact Ya (wpAny_loadPart (k _ _ (X _ _ ho)) (Yc q))
  ·cases hcD
 ne:=λh tp dd its n sl X htp=>by
  obtain⟨cdD,hcD,_⟩:=any_some Z.dk
  refine Bool.eq_false_iff.mpr λq=>?_
  have e:C=tp:=Value.ref.inj (beq_iff_eq.mp q);subst e
  unfold clsIn at hcD
  split at hcD
  ·rename_i c' d' cd' sl' ho
   have z:=(X _ _ ho).symm.trans htp;cases z
  ·cases hcD
 ca:=λX I k=>Znd X I Z k
end
noncomputable def ZiB (e C:Addr):HO:=.ext (Zkw e C)
noncomputable def tyIs (K:Frag) (H:Hp) (x:V) (c:Value) (b:Bool):Prop :=
 (∃t,TyOf K H x t/\kitOne K t c=some b)\/∃e C,x=.ref e/\H e=some (ZiB e C)/\ExK K C/\kitOne K (.ref C) c=some b
noncomputable def cOf:V->Option Value
 |.ref a=>some (.ref a)
 |.ty n=>some (.type n)
 |_=>none
section
variable {X:Cx}
noncomputable def rIsi (K:Frag):List V->Hp->VK->Prop:=λxs H Q=>∃x v c b,xs=[x,v]/\cOf v=some c/\tyIs K H x c b/\Q (.bl b) H
theorem ZoX:Zb4 X (.builtin "isinstance") (rIsi X.K):=by
 intro pins s σ H xs us Q I r h
 obtain⟨x,v,c,b,rfl,hc,ht,q⟩:=h
 obtain⟨u,u2,rfl,ru,ru2⟩:=r.two
 have e2:u2=c:=by
  cases v with
  |ref a=>have:=(show u2=Value.ref a from ru2);cases hc;exact this
  |ty n=>have:=(show u2=Value.type n from ru2);cases hc;exact this
  |_=>cases hc
 subst e2
 have fin:∀tk,EP X pins σ Q (.bool b) {s with toks:=tk}:=λtk=>⟨.bl b,H,I.tok tk,rfl,q⟩
 rcases ht with⟨t,ty,e⟩|⟨e,C,rfl,hH,Z,e1⟩
 ·exact Zm5 I ru ty e fin
 ·cases(show u=Value.ref e from ru)
  obtain⟨p,_,_⟩:=(show Zaf X.prog X.w H s.heap e (ZiB e C)from I.hok e _ hH)
  exact kia_one (Zrp Z) I.kIn p e1 (λz=>nomatch z) fin
end
end L2
namespace L2
open PySem PySem.Spec PyProof.Rows
theorem Zaf.has {P:Program}{w:World}{H:Hp}{h:Heap}{a:Addr}{o:HO} (x:Zaf P w H h a o):∃u,h.get? a=some u:=by
 induction o with
 |lst xs=>obtain⟨_,_,_,_,e⟩:=x;exact⟨_,e⟩
 |tup xs=>obtain⟨_,_,_,o,e,_⟩:=x;exact⟨_,e⟩
 |dK kvs=>obtain⟨_,_,_,_,o,_,_,e,_⟩:=x;exact⟨_,e⟩
 |dT kvs=>obtain⟨_,_,_,_,o,_,_,e,_⟩:=x;exact⟨_,e⟩
 |set S n=>obtain⟨o,_,_,_,e,_⟩:=x;exact⟨_,e⟩
 |ins C dx fs=>obtain⟨_,_,_,e,_⟩:=x;exact⟨_,e⟩
 |own y=>exact x
 |xd fs=>obtain⟨_,⟨_,_,_,e,_⟩,_⟩:=x;exact⟨_,e⟩
 |rng lo hi=>obtain⟨_,_,_,e⟩:=x;exact⟨_,e⟩
 |frz ob u _=>obtain⟨e,_⟩:=x;exact⟨_,e⟩
 |tbl ps=>obtain⟨_,e,_⟩:=x;exact⟨_,e⟩
 |met f y=>exact⟨_,x⟩
 |ext φ=>obtain⟨_,e,_⟩:=x;exact e
structure Fly (P:Program) (w:World) (outer:List Env) (H:Hp) (s:Shared) (H':Hp) (B:Heap) (e:Addr) (C a0:Value) (s':Shared):Prop where
 os:s'.os=s.os
 bare:AllBare s'.gens
 fly:Heap.FlyingW B outer e C a0 s'.heap
 hok:HOk P w H' B
 keep:∀b o,s.heap.get? b=some o->H b=none->b∉frs outer->B.get? b=some o
 slot:∀b o,s.heap.get? b=some o->b∈frs outer->(∀vs,o.data≠.fields vs)->∃sl,s'.heap.get? b=some {o with slots:=sl}
 free:∀b o,s.heap.get? b=some o->H b=none->H' b=none
 there:∀b o,s.heap.get? b=some o->b∉frs outer->∃o',B.get? b=some o'
 tups:∀b xs,H b=some (.tup xs)->H' b=some (.tup xs)
 frzs:∀b o u,H b=some (.frz o u)->H' b=some (.frz o u)
 tbls:∀b ps,H b=some (.tbl ps)->∃more,H' b=some (.tbl (ps++more))
noncomputable def CXE (P:Program) (w:World):CXT:=λouter H s E ev s'=>∃e C a0 H' B,ev=.ref e/\Fly P w outer H s H' B e C a0 s'/\E C none H'
theorem Zx {P:Program}{w:World}{X:Cx}:Passes (CXE P w) X E0:=λ_ _ _ _ _ _ _ ⟨_,_,_,_,_,_,_,z⟩=>z.elim
section
variable {P:Program}{w:World}{K:PySem.W.Frag}{mg:Str->Option Value}{base:Heap}{N:List Str}{qual:Str}{scope:Scope}{f:Addr}{cd:Value}{A:Around}{outer:List Env}{s:Shared}{H:Hp}{E:XK}
theorem ZjF {pins:List (Addr×Obj)}{σ:St}{H1:Hp}{s1:Shared}{h':Heap}{e:Addr}{C:Value}{vs:List Value} (I:Inv (ZfT (CXE P w) P w K mg base N qual scope f cd A outer s H E) pins σ H1 s1)
  (hx:Heap.MadeExcOf s1.heap h' e C vs) (hE:E C none H1):(ZfT (CXE P w) P w K mg base N qual scope f cd A outer s H E).xe (.ref e) {s1 with heap:=h'}:=by
 let env:=envOfC qual scope s.heap.objs.size f cd
 let B:=PySem.W.hideAll s1.heap (frs (env::outer))
 have hin:∀en∈(env::outer),∀b,en.frame=some b->b∈frs (env::outer):=λen he b hb=>List.mem_filterMap.mpr ⟨en,he,hb⟩
 have st:s1.heap.FunFrames base (env::outer):=I.stack
 have loc:∀b,b∈frs (env::outer)->b=s.heap.objs.size\/b∈frs outer:=λb hb=>Ym.mp (I.Zef b hb)
 have old:∀b o,s.heap.get? b=some o->b∉frs outer->b∉frs (env::outer):=λb o q nb hb=>by
  rcases loc b hb with z|z
  ·exact absurd (Yj q) (by rw[z];exact YA _)
  ·exact nb z
 have un:Un (frs outer) [] H H1 s.heap s1.heap:=I.base
 have hokB:HOk P w H1 B:=λa o q=>by
  have nf:∀b o,H1 b=some o->b∉frs (env::outer):=λb o z hb=>by
   have:=I.ZfR b hb
   rw[this]at z;cases z
  refine(I.hok a o q).ZfQ (λb u hb z=>?_) (λ_ z=>z) (λ_ _ z=>z) λ_ _ _ z=>z
  rcases hb with hb|hb
  ·rw[hb]at z⊢;exact PySem.W.hideAll_get _ z (nf a o q)
  ·exact PySem.W.hideAll_get _ z (nf b _ hb)
 refine wpAny_leaves_madeW (base:=B) (h:=s1.heap) (env:=env) (outer:=outer) (L:=s.heap.objs.size) I.ok.frames rfl (λb o q=>PySem.W.of_hideAll _ q) (PySem.W.funFrames_hide st hin) hx λh2 t x1 x2 x3 x4=>?_
 refine⟨e,C,.ref t,H1,B,rfl,⟨I.os,I.bare,x1,hokB,λb o q n nb=>?_,λb o q hb hd=>?_,λb o q n=>un.free b o q n (by simp),λb o q nb=>?_,un.tups,un.frzs,un.tbls⟩,hE⟩
 ·exact PySem.W.hideAll_get _ (un.keep b o q n nb (by simp)) (old b o q nb)
 ·obtain⟨sl,z⟩:=un.slot b o q (I.ok.frf b hb) hb (by simp)
  obtain⟨sl2,z2⟩:=x4 b _ (hx.keeps _ _ z) hd
  exact⟨sl2,z2⟩
 ·obtain⟨o',z⟩:=un.there b o q (by simp)
  exact⟨o',PySem.W.hideAll_get _ z (old b o q nb)⟩
theorem ZaO:Passes (CXE P w) (ZfT (CXE P w) P w K mg base N qual scope f cd A outer s H E) E:=by
 intro pins σ H1 s1 ev s2 I h
 obtain⟨e,C,a0,H',B,rfl,F,hE⟩:=h
 let env:=envOfC qual scope s.heap.objs.size f cd
 have un:Un (frs outer) [] H H1 s.heap s1.heap:=I.base
 have loc:∀b,b∈frs (env::outer)->b=s.heap.objs.size\/b∈frs outer:=λb hb=>Ym.mp (I.Zef b hb)
 have old:∀b o,s.heap.get? b=some o->b∉frs outer->b∉frs (env::outer):=λb o q nb hb=>by
  rcases loc b hb with z|z
  ·exact absurd (Yj q) (by rw[z];exact YA _)
  ·exact nb z
 refine wpAny_leaves_onW (env:=env) (outer:=outer) (L:=s.heap.objs.size) I.ok.frames rfl F.fly λh2 x1 x2=>?_
 refine⟨e,C,a0,H',B,rfl,⟨F.os.trans I.os,F.bare,x1,F.hok,λb o q n nb=>F.keep b o (un.keep b o q n nb (by simp)) (un.free b o q n (by simp)) (old b o q nb),λb o q hb hd=>?_,λb o q n=>?_,λb o q nb=>?_,λb xs z=>F.tups b xs (un.tups b xs z),λb o u z=>F.frzs b o u (un.frzs b o u z),λb ps z=>?_⟩,hE⟩
 ·obtain⟨sl,z⟩:=un.slot b o q (I.ok.frf b hb) hb (by simp)
  obtain⟨en,he,hf⟩:=List.mem_filterMap.mp hb
  obtain⟨sl2,z2⟩:=F.slot b _ z (List.mem_filterMap.mpr ⟨en,.tail _ he,hf⟩) hd
  obtain⟨sl3,z3⟩:=x2 b _ z2 hd
  exact⟨sl3,z3⟩
 ·by_cases hb:b∈frs outer
  ·have h1:H1 b=none:=un.free b o q n (by simp)
   obtain⟨sl,z⟩:=un.slot b o q n hb (by simp)
   exact F.free b _ z h1
  ·exact F.free b o (un.keep b o q n hb (by simp)) (un.free b o q n (by simp))
 ·obtain⟨o',z⟩:=un.there b o q (by simp)
  exact F.there b o' z (old b o q nb)
 ·obtain⟨m1,z1⟩:=un.tbls b ps z
  obtain⟨m2,z2⟩:=F.tbls b _ z1
  exact⟨m1++m2,by rw[<-Array.append_assoc];exact z2⟩
end
abbrev bmV:List Value:=[.type "ValueError",.type "Exception",.type "BaseException",.type "object"]
abbrev newV:String:="ValueError.__new__"
theorem ZoY {K:PySem.W.Frag}{h:Heap}{mg:Str->Option Value}{x:Str}{C:Addr} (X:K.In h) (hm:mg x=some (.ref C)) (q:PySem.W.excIn K C bmV newV=true):OwnCls x C bmV newV mg h:=by
 refine⟨hm,?_⟩
 unfold PySem.W.excIn at q;split at q
 ·rename_i dd cd sl ho
  split at q
  ·rename_i C' bm k0 k1 k2 k3 n k5 hmm hs
   simp only[Bool.and_eq_true,beq_iff_eq,Bool.not_eq_true']at q;obtain⟨⟨⟨⟨⟨rfl,rfl⟩,hdel⟩,ht⟩,hok⟩,hni⟩:=q
   obtain⟨nm,bs,mro,ns,qn,hd,sn,sub,ab,col,del⟩:=cd;dsimp only at hmm hdel hok hni;subst hmm hdel
   have hsl:sl=#[k0,k1,k2,k3,some (.builtin newV),k5]:=by obtain⟨l⟩:=sl;simp only at hs;rw[hs]
   subst hsl;exact⟨bm,ns,nm,qn,bs,hd,sn,sub,ab,col,dd,k0,k1,k2,k3,k5,_,X _ _ ho,.of_isNs (PySem.W.isNs_of_in X hok),PySem.W.nsMap_none_of_in X hok hni,PySem.W.tail_of_in X ht⟩
  ·cases q
 ·cases q
section
variable {X:Cx}
noncomputable def ZlA (C:Addr) (E:XK) (t:TA):TS:=λ_ σ H=>t σ H λvs H1=>vs.length<=sizeLine/\E (.ref C) none H1
theorem Zkx {x:Str}{C:Addr}{np cpos pos:Pos}{e0:Expr}{es:List Expr}{t:TA}{E:XK} (hc:X.calm=true) (hg:Gl X x) (hm:X.mg x=some (.ref C)) (q:PySem.W.excIn X.K C bmV newV=true) (ha:PA X (e0::es) t)
  (hx:∀pins σ H s h' e vs,Inv X pins σ H s->Heap.MadeExcOf s.heap h' e (.ref C) vs->E (.ref C) none H->X.xe (.ref e) {s with heap:=h'})
  (he:starEach (e0::es) X.env=(false,eval e0 X.env)::starEach es X.env:=by rfl) (hpl:(backTo cpos (starEach es X.env)).any (·.1)=false:=by rfl) (hd:(x==("__debug__":Str))=false:=by decide) :
  PS X (.Raise (some (.Call (.Name x np) (e0::es) [] cpos)) none pos) (ZlA C E t):=by
 intro pins s σ H D I h
 obtain⟨tl,Nn,nm,qn,bs,hdct,sn,sub,ab,col,dd,k0,k1,k2,k3,k5,mN,hC,hN,hni,T⟩:=(ZoY (x:=x) I.mod.kin hm q).obj
 refine wpAny_Raise_call_subT (C:=C) (nm:=nm) (q:=qn) (N:=Nn) (bs:=bs) (bm:=tl) (hdct:=hdct) (sn:=sn) (sub:=sub) (ab:=ab) (col:=col) (dd:=dd) (k0:=k0) (k1:=k1) (k2:=k2) (k3:=k3) (k5:=k5)
  PySem.F.excBase_ValueError (mN:=mN) (T.hasType PySem.F.excBase_ValueError.hasBase) (I.ok.hd hc) (by rw[he];show(false||(backTo cpos (starEach es X.env)).any (·.1))=false;rw[hpl];rfl) hni (ZfS I hg hm ⟨rfl,?_⟩ hd)
 have h2:=ha cpos pins s σ H _ I h
 rw[he]at h2⊢
 exact Calls.evalArgs_plain (thn h2 λus s2 ⟨vs,H2,I2,r,z,q2⟩=>⟨rfl,by rw[<-r.length];exact z,I2.bk _ _ hC,hN.keeps I2.bk,T.keeps I2.bk,λh' e hm'=>hx pins σ H2 s2 h' e us I2 hm' q2⟩)
end
noncomputable def Cx.tries (X:Cx) (Ec:St->XK) (pl:List (Addr×Obj)):Cx:={X with pn:=X.pn++pl,xe:=λev s'=>∃σ H s,Inv X pl σ H s/\CXE X.prog X.w X.stack H s (Ec σ) ev s'}
noncomputable def Cx.Zfg (X:Cx) (A':Around):Cx:={X with A:=A',calm:=false,xe:=λ_ _=>False}
section
variable {X:Cx}
theorem Inv.tries {pins:List (Addr×Obj)}{σ:St}{H:Hp}{s:Shared} (I:Inv X pins σ H s) (Ec:St->XK):Inv (X.tries Ec pins) [] σ H s :=
 ⟨⟨I.ok.mod,I.ok.kind,I.ok.glob,I.ok.blt,I.ok.above,I.ok.inj,I.ok.has,I.ok.cab,I.ok.hd,I.ok.frames,I.ok.stk,I.ok.exf,I.ok.bs,I.ok.bsz,I.ok.noex,I.ok.exfs,I.ok.funs,I.ok.frf⟩,I.os,I.bare,I.base,I.loc,I.cell,I.free,I.freeC,
  λp hp=>I.pin p (by simpa[Cx.tries]using hp),I.hok,I.len⟩
theorem Inv.ZfY {pins pl:List (Addr×Obj)}{σ:St}{H:Hp}{s:Shared}{Ec:St->XK} (I:Inv (X.tries Ec pl) pins σ H s):Inv X pl σ H s :=
 ⟨⟨I.ok.mod,I.ok.kind,I.ok.glob,I.ok.blt,I.ok.above,I.ok.inj,I.ok.has,I.ok.cab,I.ok.hd,I.ok.frames,I.ok.stk,I.ok.exf,I.ok.bs,I.ok.bsz,I.ok.noex,I.ok.exfs,I.ok.funs,I.ok.frf⟩,I.os,I.bare,I.base,I.loc,I.cell,I.free,I.freeC,
  λp hp=>I.pin p (YG _ (by simpa[Cx.tries]using hp)),I.hok,I.len⟩
theorem Inv.Zfg {pins:List (Addr×Obj)}{σ:St}{H:Hp}{s:Shared}{A':Around} (I:Inv X pins σ H s) (hA:A'.frames=X.A.frames):Inv (X.Zfg A') pins σ H s :=
 ⟨⟨I.ok.mod,I.ok.kind,I.ok.glob,I.ok.blt,I.ok.above,I.ok.inj,I.ok.has,I.ok.cab,(λz=>nomatch z),hA.trans I.ok.frames,I.ok.stk,I.ok.exf,I.ok.bs,I.ok.bsz,I.ok.noex,I.ok.exfs,I.ok.funs,I.ok.frf⟩,I.os,I.bare,I.base,I.loc,I.cell,I.free,I.freeC,I.pin,I.hok,I.len⟩
theorem Inv.Zrq {pins:List (Addr×Obj)}{σ:St}{H:Hp}{s:Shared}{A':Around} (ok:X.Ok) (I:Inv (X.Zfg A') pins σ H s):Inv X pins σ H s :=
 ⟨ok,I.os,I.bare,I.base,I.loc,I.cell,I.free,I.freeC,I.pin,I.hok,I.len⟩
noncomputable def ZjG (sp:Sp) (E:St->XK) (t:TA):TE:=fun σ H Q=>t σ H λvs H1=>sp vs H1 Q (E σ)
theorem ZoZ {f:Addr}{fd:FuncData}{ps:List Str}{sp:Sp}{k:Nat}{x:Str}{p pos:Pos}{e:Expr}{es:List Expr}{t:TA}{E:St->XK} (F:FnOk X.prog X.w X.K X.mg X.base (CXE X.prog X.w) k f fd ps sp) (hr:Room k X.A) (hg:Gl X x) (hm:X.mg x=some (.ref f)) (hk:PySem.W.keepIn X.K (.ref f)=true) (hb:Binds X.K fd ps [])
  (hx:∀pins σ H s ev s',Inv X pins σ H s->CXE X.prog X.w X.stack H s (E σ) ev s'->X.xe ev s') (ha:PA X (e::es) t)
  (hdb:(x==("__debug__":Str))=false:=by decide) (he:starEach (e::es) X.env=(false,eval e X.env)::starEach es X.env:=by rfl) (hpl:(backTo pos (starEach es X.env)).any (·.1)=false:=by rfl) :
  PE X (.Call (.Name x p) (e::es) [] pos) (ZjG sp E t):=by
 intro pins s σ H Q I h
 refine wpAny_Call_Name_kw (ZfS I hg hm ?_ hdb)
 refine PySem.W.callWith_K (h₀:=X.base) I.ok.mod.kin hk (thn (ha pos pins s σ H _ I h) λus s1 ⟨vs,H1,I1,r,q⟩=>⟨I1.kIn,?_⟩) he hpl
 have hl:us.length=ps.length:=by rw[<-r.length];exact F.len _ _ _ _ q
 have hbb:=hb s1 us I1.kIn (by simpa using hl)
 rw[List.append_nil]at hbb
 refine wpAny_call (codeAny_mono (F.run X.A X.stack s1 H1 ⟨us,[]⟩ us vs Q (E σ) hr I1.env0 hbb r q) λr s' hq=>?_)
 cases r with
 |error ev=>exact hx pins σ H1 s1 ev s' I1 hq
 |ok fl =>
  cases fl with
  |ret u=>exact I1.after hq
  |next=>exact False.elim hq
  |brk=>exact False.elim hq
  |cont=>exact False.elim hq
theorem Zmy {Ec:St->XK}{pl:List (Addr×Obj)}:∀pins σ H s ev s',Inv (X.tries Ec pl) pins σ H s->CXE X.prog X.w X.stack H s (Ec σ) ev s'->(X.tries Ec pl).xe ev s':=λpins σ H s ev s' I h=>⟨σ,H,s,I.ZfY,h⟩
theorem ZiC {M:Model}{A:Around}{E:Value->Shared->Prop}{C D:Addr}{nm' q':Str}{N':Addr}{bs' bm':List Value}{hdct':Bool}{sn':List Str}{sub':List Value}{ab':Bool}{col':Option Bool}{dd':Option Addr}{k0' k1' k2' k3' k5':Option Value}{newId':String}
  {h:Heap}{g:Array GenState}{d:Drawn}{t:Nat}{os:OsState}{e:Addr}{oe:Obj}{Q:Bool->Shared->Prop}
  (LC:PySem.W.Looks M h (isSubtype (.ref C) (.ref D)) true) (hD:h.get? D=some (excClassObj nm' q' D N' bs' bm' hdct' sn' sub' ab' col' dd' k0' k1' k2' k3' k5' newId'))
  (he:h.get? e=some oe) (hcls:oe.cls=.ref C) (hbase:bm'.contains (.type "BaseException")=true)
  (hq:Q true ⟨h,g,d,t,os⟩):wpAny M A (excMatches (.ref e) (.ref D)) Q E ⟨h,g,d,t,os⟩:=by
 have hcB:(Value.ref D::bm').contains (.type "BaseException")=true:=by rw[List.contains_cons,hbase,Bool.or_true]
 have f:=tc_notTuple
 unfold excMatches
 repeat (first|(with_reducible refine wpAny_loadPart_at he ?_;rw[hcls])|with_reducible refine wpAny_loadPart_at hD ?_|(with_reducible refine wpAny_isSubtype_exc hD ?_;rw[hcB])|(with_reducible refine LC.at ?_)|wp_step)
 exact hq
theorem Fly.land {pins:List (Addr×Obj)}{σ:St}{H1 H':Hp}{s1 s2:Shared}{B h5:Heap}{e C:Addr}{a0:Value} (I:Inv X pins σ H1 s1) (F:Fly X.prog X.w X.stack H1 s1 H' B e (.ref C) a0 s2)
  (fl:Heap.FlyingW B X.stack e (.ref C) a0 h5) (sm:s2.heap.UpToSlots h5):H' e=none/\Inv X pins σ (upd H' e (ZiB e C)) {s2 with heap:=h5}:=by
 obtain⟨oe,vs,hoe,hoc,hod,_⟩:=fl.first
 have nB:B.get? e=none:=fl.2.1
 have trk:∀b o,H' b=some o->b≠e:=λb o q z=>by
  obtain⟨u,hu⟩:=(F.hok b o q).has
  rw[z,nB]at hu;cases hu
 have hHe:H' e=none:=by
  cases q:H' e with
  |none=>rfl
  |some o=>exact absurd rfl (trk e o q)
 have nfr:e∉frs X.stack:=λhb=>by
  obtain⟨_,o,ho,hd⟩:=fl.2.2.1.mem hb
  rw[hoe]at ho;cases ho
  exact hd _ hod
 have frd:∀b o,s1.heap.get? b=some o->b∈frs X.stack->∀vs,o.data≠.fields vs:=λb o q hb=>by
  obtain⟨_,o',ho,hd⟩:=I.stack.mem hb
  rw[q]at ho;cases ho
  exact hd
 refine⟨hHe,I.Zmm (s':={s2 with heap:=h5}) (ch:=[]) F.os ⟨λb o q n nb _=>fl.1 b o (F.keep b o q n nb),λb o q n hb _=>?_,λb o q n _=>?_,λb o q _=>?_,λb xs q=>?_,λb o u q=>?_,λb ps q=>?_⟩ (λa o q=>?_) F.bare λb z=>absurd z (by simp)⟩
 ·obtain⟨sl,z⟩:=F.slot b o q hb (frd b o q hb)
  obtain⟨sl2,z2⟩:=sm b _ z (frd b o q hb)
  exact⟨sl2,z2⟩
 ·rw[Zj]
  ·exact F.free b o q n
  ·intro z
   by_cases hb:b∈frs X.stack
   ·exact nfr (z▸hb)
   ·have:=F.keep b o q n hb
    rw[z,nB]at this;cases this
 ·by_cases hb:b∈frs X.stack
  ·obtain⟨sl,z⟩:=F.slot b o q hb (frd b o q hb)
   obtain⟨sl2,z2⟩:=sm b _ z (frd b o q hb)
   exact⟨_,z2⟩
  ·obtain⟨o',z⟩:=F.there b o q hb
   exact⟨o',fl.1 b o' z⟩
 ·have z:=F.tups b xs q;rw[Zj (trk b _ z)];exact z
 ·have z:=F.frzs b o u q;rw[Zj (trk b _ z)];exact z
 ·obtain⟨m,z⟩:=F.tbls b ps q
  exact⟨m,by rw[Zj (trk b _ z)];exact z⟩
 ·by_cases ha:a=e
  ·subst ha
   rw[Zc]at q;cases q
   exact⟨⟨oe,hoe,hoc⟩,⟨oe,hoe⟩,λh1 h2 ⟨o,z1,z2⟩ k=>⟨o,k o z1,z2⟩⟩
  ·rw[Zj ha]at q
   exact(F.hok a o q).ZfQ (λb u _ z=>fl.1 b u z) (λb z=>by rw[Zj (trk b _ z)];exact z) (λb xs z=>by rw[Zj (trk b _ z)];exact z) λb o u z=>by rw[Zj (trk b _ z)];exact z
theorem Inv.forget {pins:List (Addr×Obj)}{σ:St}{H:Hp}{s:Shared}{h':Heap}{j:Nat}{n:Str}{m:Str->Option Value}{u:Option Value} (I:Inv X pins σ H s) (hj:X.N[j]?=some n) (hN:X.N.Nodup)
  (hl:∀(i:Nat) (x:Str) (v:V),X.N[i]?=some x->σ[i]?=some (some v)->Vis X.env.scope x->∃u,RelV v u/\Look X.env s.heap m x u)
  (hn:h'.Ns X.env.locals (λx=>if x=n then u else m x)) (hs:Heap.SameBut X.env.locals s.heap h'):Inv X pins (σ.set j none) H {s with heap:=h'}:=by
 have same:∀b o,b≠X.env.locals->s.heap.get? b=some o->h'.get? b=some o:=λb o hb e=>hs.extBut b o hb e
 have old:∀b o,X.s₀.heap.get? b=some o->b≠X.env.locals:=λb o e=>Yo (Ys (Yj e) I.ok.above)
 have trk:∀b o,H b=some o->b≠X.env.locals:=λb o e z=>by rw[z,I.free]at e;cases e
 refine⟨I.ok,I.os,I.bare,⟨λb o e n hb hx=>same _ _ (old b o e) (I.base.keep b o e n hb hx),λb o e n hb hx=>?_,I.base.free,λb o e hx=>?_,I.base.tups,I.base.frzs,I.base.tbls⟩,⟨_,hn,λi x v e1 e2 e3=>?_⟩,λx c e=>?_,I.free,I.freeC,λp hp=>?_,λa o e=>?_,by rw[List.length_set];exact I.len⟩
 ·obtain⟨sl,z⟩:=I.base.slot b o e n hb hx
  exact⟨sl,same _ _ (old b o e) z⟩
 ·obtain⟨o',z⟩:=I.base.there b o e hx
  exact⟨o',same _ _ (old b o e) z⟩
 ·have hij:i≠j:=λz=>by
   subst z
   rw[List.getElem?_set]at e2
   split at e2
   ·split at e2<;>cases e2
   ·rename_i hh;exact hh rfl
  rw[List.getElem?_set_ne (Ne.symm hij)]at e2
  obtain⟨w,r,l⟩:=hl i x v e1 e2 e3
  refine⟨w,r,?_⟩
  have hxn:x≠n:=λz=>by subst z;exact hij (Zhv hN e1 hj)
  rcases l with⟨l1,l2⟩|⟨l1,c,l2,l3⟩
  ·exact .inl ⟨l1,by show(if x=n then u else m x)=_;rw[Yb hxn];exact l2⟩
  ·obtain⟨oc,z1,z2⟩:=l3
   exact .inr ⟨l1,c,l2,oc,same _ _ (I.cne x c l2) z1,z2⟩
 ·obtain⟨v,oc,z1,z2⟩:=I.cell x c e
  exact⟨v,oc,same _ _ (I.cne x c e) z1,z2⟩
 ·obtain⟨z1,z2,z3,z4,z5⟩:=I.pin p hp
  exact⟨same _ _ z3 z1,z2,z3,z4,z5⟩
 ·refine(I.hok a o e).ZfQ (λb u hb z=>same b u ?_ z) (λ_ z=>z) (λ_ _ z=>z) λ_ _ _ z=>z
  rcases hb with hb|hb
  ·rw[hb];exact trk a o e
  ·exact trk b _ hb
noncomputable def tTry (K:PySem.W.Frag) (D:Addr) (tb:(St->XK)->TS) (ts:TS) (j:Nat):TS:=λDe σ H=>∃Ec:St->XK,tb Ec De σ H/\∀σ1 C H1,Ec σ1 C none H1->∃C',C=.ref C'/\PySem.W.mroIn K C' (.ref D)=some true /\
 ∀e,H1 e=none->ts {nx:=fun σ2 H2=>De.nx (σ2.set j none) H2,rt:=λ_ _=>False} (σ1.set j (some (.ref e))) (upd H1 e (ZiB e C'))
theorem ps_try {body:List Stmt}{n x:Str}{np hpos pos:Pos}{b0:Stmt}{Zfg:List Stmt}{D:Addr}{tb:(St->XK)->TS}{ts:TS}{j:Nat}
  (hst:X.stack=X.env::X.outer/\X.env.frame=some X.env.locals) (hN:X.N.Nodup) (hj:X.N[j]?=some n) (hn:X.env.scope.names.lookup n=some .local)
  (hg:Gl X x) (hm:X.mg x=some (.ref D)) (qD:PySem.W.excIn X.K D bmV newV=true) (hb:∀Ec pl,PSs (X.tries Ec pl) body (tb Ec)) (hs:∀A',PSs (X.Zfg A') (b0::Zfg) ts)
  (hd:(x==("__debug__":Str))=false:=by decide) :
  PS X (.Try body [.ExceptHandler (some (.Name x np)) (some n) (b0::Zfg) hpos] [] [] pos) (tTry X.K D tb ts j):=by
 intro pins s σ H De I h
 obtain⟨Ec,hb1,hx⟩:=h
 refine wpAny_Try_except (Yu (hb Ec pins [] s σ H De (I.tries Ec) hb1) (λfl s1 q=>?_) λev s1 q=>?_)
 ·cases fl with
  |next=>obtain⟨σ',H',I',q⟩:=q;exact wpAny_execs_nil ⟨σ',H',I'.ZfY,q⟩
  |brk=>obtain⟨σ',H',I',q⟩:=q;exact⟨σ',H',I'.ZfY,q⟩
  |cont=>obtain⟨σ',H',I',q⟩:=q;exact⟨σ',H',I'.ZfY,q⟩
  |ret u=>obtain⟨v,σ',H',I',r,q⟩:=q;exact⟨v,σ',H',I'.ZfY,r,q⟩
 ·obtain⟨σ1,H1,s0,I1,e,C,a0,H',B,rfl,F,hE⟩:=q
  obtain⟨C',rfl,hup,hx⟩:=hx σ1 C H' hE
  refine wpAny_looks_onW (by rw[I.ok.frames,hst.1]) hst.2 (hst.1▸F.fly) λh4 held sm4=>?_
  refine wpAny_landsW held λh5 fl5 sm5=>?_
  have fl5':Heap.FlyingW B X.stack e (.ref C') a0 h5:=by rw[hst.1];exact fl5
  obtain⟨hHe,I5⟩:=F.land I1 fl5' (sm4.trans sm5)
  refine wpAny_handleBy_cons (codeAny_handlers_test ?_) (by intro q;cases q)
  have I5s:=I5.Zfg (A':=X.A.mark (some (.ref e))) rfl
  refine ZfS (X:=X.Zfg (X.A.mark (some (.ref e)))) I5s hg hm ?_ hd
  obtain⟨tl,Nn,nm,qn,bs,hdct,sn,sub,ab,col,dd,k0,k1,k2,k3,k5,mN,hC,_,_,T⟩:=(ZoY (x:=x) I5.kIn hm qD).obj
  obtain⟨oe,hoe,hoc⟩:=fl5.there
  refine ZiC (PySem.W.looks_mroIn I5.kIn hup) hC hoe hoc (T.hasType PySem.F.excBase_ValueError.hasBase) ?_
  refine codeAny_handlers_suite_as ?_
  refine lands_againW fl5 λh6 fl6 sm6=>?_
  obtain⟨_,I6⟩:=F.land I1 (h5:=h6) (by rw[hst.1];exact fl6) ((sm4.trans sm5).trans sm6)
  refine Zeg I6 hN hj (Or.inl hn) (v:=.ref e) rfl (λs7 I7=>?_) (.inr hn)
  refine Yu (hs _ pins s7 _ _ _ (I7.Zfg rfl) (hx e hHe)) (λfl s8 q=>?_) λ_ _ z=>z.elim
  cases fl with
  |brk=>obtain⟨_,_,_,q⟩:=q;exact q.elim
  |cont=>obtain⟨_,_,_,q⟩:=q;exact q.elim
  |ret u=>obtain⟨_,_,_,_,_,q⟩:=q;exact q.elim
  |next =>
   obtain⟨σ8,H8,I8,q8⟩:=q
   have I8':=I8.Zrq I.ok
   refine Ya (wpAny_bindName (Zeg I8' hN hj (Or.inl hn) (v:=.non) (u:=.none) rfl (λs9 I9=>?_) (.inr hn)))
   unfold unbindBehindTheSuite
   refine wpAny_onRaise ?_
   obtain⟨m9,hn9,hl9⟩:=I9.loc
   have hlen:j < σ8.length:=by
    have e1:=I8'.len
    have e2:=(Yw.mp hj).1
    omega
   obtain⟨u9,r9,l9⟩:=hl9 j n .non hj (by rw[List.getElem?_set_self hlen]) (Or.inl hn)
   have hm9:m9 n=some u9:=by
    rcases l9 with⟨_,z⟩|⟨z,_⟩
    ·exact z
    ·rcases z with z|z
     ·rw[show X.env.kindOf n=some .local from hn]at z;cases z
     ·rw[show X.env.kindOf n=some .local from hn]at z;cases z
   refine wpAny_unbindName_local hn hn9 hm9 (by rw[I.ok.kind];rfl) λh' u hns hsb=>?_
   have J:=I9.forget hj hN hl9 hns hsb
   rw[List.set_set]at J
   exact⟨_,_,J,q8⟩
end
section
variable {P:Program}{w:World}{K:PySem.W.Frag}{mg:Str->Option Value}{base:Heap}
theorem Fun.okX {x qual:Str}{st:Stmt}{f:Addr}{fd:FuncData}{N ps:List Str}{k:Nat}{sp:Sp} (F:Fun K x qual st f fd) (S:FnScope N ps (defScope st)) (len:∀vs H Q E,sp vs H Q E->vs.length=ps.length)
  (hbody:∀(cdv:Value) (A:Around) (outer:List Env) (s:Shared) (H:Hp) (vs:List V) (Q:VK) (E:XK),Room k (A.deeper (envOfC qual (defScope st) s.heap.objs.size f cdv))->sp vs H Q E ->
   ∃t,PSs (ZfT (CXE P w) P w K mg base N qual (defScope st) f cdv A outer s H E) (defBody st) t/\t {nx:=λ_ H'=>Q .non H',rt:=Q} (start N vs) H):FnOk P w K mg base (CXE P w) (k+1) f fd ps sp:=by
 obtain⟨oc,od,kV,doc,pm,an,cdv,ct,osl,rfl,lk,hcd⟩:=F.ex
 exact fn_of lk hcd S len λA outer s H vs Q E hr hsp=>hbody cdv A outer s H vs Q E hr hsp
end
end L2
namespace L2
open PySem PySem.Spec PyProof.Rows PySem.W
section
variable {X:Cx}
theorem Zbn:OpR X (binaryOp .Mult) (rI IntMulOk λi j=>.int (i*j)):=opI λ_ _ _ _ _ _ _ hc q=>mul_int q hc
noncomputable def ZlB:V->List V->Hp->VK->Prop:=λx vs H Q=>∃l xs y,x=.ref l/\vs=[y]/\H l=some (.lst xs)/\(∃b,y=.bl b)/\(∀z∈xs,∃b,z=.bl b)/\Q (.int (xs.countP λz=>decide (z=y))) H
theorem Zo0 (a b:Bool):PySem.MeetsSeq.EqGives (.bool a) (.bool b) (a==b):=λprog w A E s Q h=>SeqAt.EqAt.bool_bool a b prog w E Q h
theorem Zo1:MtM X "list.count" ZlB:=by
 intro pins s σ H x vs v us Q I rx rv h
 obtain⟨l,xs,y,rfl,rfl,hH,⟨b,rfl⟩,hall,q⟩:=h
 cases rx
 obtain⟨u,rfl,ru⟩:=rv.one
 cases(show u=Value.bool b from ru)
 obtain⟨z,its,n,r,hl,e⟩:=I.Zly hH
 have key:∀{xs:List V}{its:List Value},Vals xs its->(∀z∈xs,∃b,z=.bl b)->(∀y∈its,∃c,y=Value.bool c)/\its.countP (λy=>y==Value.bool b)=xs.countP λz=>decide (z=.bl b):=by
  intro xs its r
  induction r with
  |nil=>intro _;exact⟨λy hy=>by simp at hy,rfl⟩
  |@cons a u l1 l2 ra rt ih =>
   intro hb
   obtain⟨c,rfl⟩:=hb a (.head _)
   obtain rfl:u=Value.bool c:=ra
   obtain⟨i1,i2⟩:=ih λz hz=>hb z (.tail _ hz)
   refine⟨λy hy=>?_,?_⟩
   ·rcases Ym.mp hy with rfl|hy
    ·exact⟨c,rfl⟩
    ·exact i1 y hy
   ·rw[List.countP_cons,List.countP_cons,i2]
    congr 1
    cases c<;>cases b<;>simp
 obtain⟨k1,k2⟩:=key r hall
 refine call_meets F.slot_list_count ⟨_,e,rfl⟩ F.entry_list_count (F.args_list_count_2 _ _) (PySem.MeetsSeq.list_count l its.toArray n (.bool b) (λy=>y==Value.bool b) (λy hy=>?_)) ⟨e,?_⟩
 ·obtain⟨c,rfl⟩:=k1 y (by simpa using hy)
  have:=Zo0 c b
  have e2:(Value.bool c==Value.bool b)=(c==b):=by cases c<;>cases b<;>rfl
  rw[e2];exact this
 ·refine⟨.int _,H,I.tok _,⟨_,rfl⟩,?_⟩
  simp only[List.countP_toArray,k2]
  exact q
noncomputable def PJ (X:Cx) (es:List (Sem Value)) (t:St->Hp->(Hp->Prop)->Prop):Prop :=
 ∀(out:Str) (pins:List (Addr×Obj)) (s:Shared) (σ:St) (H:Hp) (Q:Hp->Prop),out.length+2000*es.length<=100000->Inv X pins σ H s->t σ H Q ->
  wpAny (model X.prog X.w) X.A (joinParts out es) (λu s'=>∃y tk H',u=.str y tk/\Inv X pins σ H' s'/\Q H') X.xe s
theorem Zo2:PJ X [] (λ_ H Q=>Q H):=λout pins s σ H Q hl I h =>
 joinParts_nil ⟨out,_,H,rfl,I.tok _,h⟩ (by simp at hl;exact Yn hl (by decide))
theorem ZfZ {x:Str}{j:Nat}{pos:Pos}{es:List (Sem Value)}{t:St->Hp->(Hp->Prop)->Prop} (hx:x.length<=2000) (h:PJ X es t):PJ X (eval (.Constant (.str x) j pos) X.env::es) t:=by
 intro out pins s σ H Q hl I hq
 have hl':(out++x).length+2000*es.length<=100000:=by rw[PySem.strLen_append];simp at hl;omega
 refine joinParts_cons (Calls.Constant_str ⟨Yn (Yn (Nat.le_add_right _ _) hl') (by decide),?_⟩)
 exact h _ pins _ σ H Q hl' (I.tok _) hq
theorem Zne {i:Int} (h0:0<=i) (h1:i<10 ^ 18):i.natAbs.log2<1920:=by
 by_cases hz:i.natAbs=0
 ·rw[hz];decide
 ·have h3:i.natAbs<2 ^ 60:=by
   have:(2:Nat) ^ 60=1152921504606846976:=by decide
   have h2:(10:Int) ^ 18=1000000000000000000:=by decide
   omega
  exact Ys ((Nat.log2_lt hz).mpr h3) (by decide)
theorem ZlC {e:Expr}{pos:Pos}{es:List (Sem Value)}{te:TE}{t:St->Hp->(Hp->Prop)->Prop} (he:PE X e te) (h:PJ X es t):PJ X (eval (.FormattedValue e (-1) none pos) X.env::es) (fun σ H Q=>te σ H λx H1=>∃i:Int,x=.int i/\(0<=i/\i<10 ^ 18)/\t σ H1 Q):=by
 intro out pins s σ H Q hl I hq
 refine joinParts_cons (FormattedValue_plain (thn (he pins s σ H _ I hq) λu s1 ⟨x,H1,I1,r1,i,ex,⟨h0,h1⟩,q⟩=>?_))
 subst ex
 obtain⟨tk,rfl⟩:=(show ∃t,u=Value.int i t from r1)
 refine wpAny_formatField_int (Zne h0 h1) ?_
 have hx:(Str.ofString (toString i)).length<=18:=toString_length_le h0 (by decide) h1
 have hl':(out++Str.ofString (toString i)).length+2000*es.length<=100000:=by rw[PySem.strLen_append];simp at hl;omega
 refine⟨Yn (Yn (Nat.le_add_right _ _) hl') (by decide),?_⟩
 exact h _ pins _ σ H1 Q hl' (I1.tok _) q
theorem Zky (env:Env):∀l:List Expr,(evalEach l env).length=l.length
 |[]=>rfl
 |e::r=>by
  have:evalEach (e::r) env=eval e env::evalEach r env:=rfl
  rw[this,YM,YM,Zky env r]
theorem Zi8 {e1 e2:Expr}{rest:List Expr}{pos:Pos}{t:St->Hp->(Hp->Prop)->Prop} (h:PJ X (eval e1 X.env::eval e2 X.env::evalEach rest X.env) t) (hn:rest.length<=20:=by decide) :
  PE X (.JoinedStr (e1::e2::rest) pos) (fun σ H Q=>t σ H λH1=>∀y,Q (.str y) H1):=by
 intro pins s σ H Q I hq
 have hle:=Zky X.env rest
 refine JoinedStr_many (thn (h Str.empty pins s σ H _ (by simp only[YM,hle];show 0+_<=_;omega) I hq) λu s' ⟨y,tk,H',e,I',q⟩=>?_)
 subst e
 exact⟨.str y,H',I',⟨tk,rfl⟩,q y⟩
end
noncomputable def clsAt (mg:Str->Option Value) (x:Str):Addr:=match mg x with
 |some (.ref C)=>C
 |_=>0
noncomputable def tokAt (mg:Str->Option Value) (x:Str):Tok:=match mg x with
 |some (.int _ t)=>t
 |_=>default
noncomputable def Callee (P:Program) (w:World) (K:Frag) (mg:Str->Option Value) (base:Heap) (x:Str) (k:Nat) (ps:List Str) (sp:Sp):Prop :=
 ∃f fd,mg x=some (.ref f)/\keepIn K (.ref f)=true/\Binds K fd ps []/\FnOk P w K mg base (CXE P w) k f fd ps sp
section
variable {X:Cx}
theorem Zbz {st:Stmt}{t:TS} (h:PS X.nox st t):PS X st t:=λpins s σ H D I hw =>
 Yu (h pins s σ H D (I.Ziy _) hw) (λ_ _ q=>q.Zek) λ_ _ z=>False.elim z
theorem Zi {x:Str}{k:Nat}{ps:List Str}{sp:Sp}{E:XK}{e:Expr}{es:List Expr}{t:TA}{p pos:Pos} (C:Callee X.prog X.w X.K X.mg X.base x k ps sp) (hr:Room k X.A) (hg:Gl X x) (hx:Passes (CXE X.prog X.w) X E)
  (ha:PA X (e::es) t) (hdb:(x==("__debug__":Str))=false:=by decide) (he:starEach (e::es) X.env=(false,eval e X.env)::starEach es X.env:=by rfl) (hpl:(backTo pos (starEach es X.env)).any (·.1)=false:=by rfl) :
  PE X (.Call (.Name x p) (e::es) [] pos) (Zmt sp [] E t):=by
 obtain⟨f,fd,hm,hk,hb,F⟩:=C
 exact Zrm F hr hg hm hk hb .nil hx ha hdb he hpl
theorem Ze2 {x:Str}{k:Nat}{ps:List Str}{sp:Sp}{E:St->XK}{e:Expr}{es:List Expr}{t:TA}{p pos:Pos} (C:Callee X.prog X.w X.K X.mg X.base x k ps sp) (hr:Room k X.A) (hg:Gl X x)
  (hx:∀pins σ H s ev s',Inv X pins σ H s->CXE X.prog X.w X.stack H s (E σ) ev s'->X.xe ev s')
  (ha:PA X (e::es) t) (hdb:(x==("__debug__":Str))=false:=by decide) (he:starEach (e::es) X.env=(false,eval e X.env)::starEach es X.env:=by rfl) (hpl:(backTo pos (starEach es X.env)).any (·.1)=false:=by rfl) :
  PE X (.Call (.Name x p) (e::es) [] pos) (ZjG sp E t):=by
 obtain⟨f,fd,hm,hk,hb,F⟩:=C
 exact ZoZ F hr hg hm hk hb hx ha hdb he hpl
theorem Zmz {P:Program}{w:World}{K:Frag}{mg:Str->Option Value}{base:Heap}{N:List Str}{qual:Str}{scope:Scope}{f:Addr}{cd:Value}{A:Around}{outer:List Env}{s0:Shared}{H0:Hp}{E:XK}{C:Addr} :
  ∀pins σ H s h' e vs,Inv (ZfT (CXE P w) P w K mg base N qual scope f cd A outer s0 H0 E) pins σ H s->Heap.MadeExcOf s.heap h' e (.ref C) vs->E (.ref C) none H->(ZfT (CXE P w) P w K mg base N qual scope f cd A outer s0 H0 E).xe (.ref e) {s with heap:=h'} :=
 λ_ _ _ _ _ _ _ I hx hE=>ZjF I hx hE
end
theorem ZhD:bootBuiltins "max"=some (.builtin "max"):=by decide +kernel
theorem Zo3:bootBuiltins "min"=some (.builtin "min"):=by decide +kernel
theorem Zu:bootBuiltins "isinstance"=some (.builtin "isinstance"):=by decide +kernel
theorem ZjH:bootBuiltins "list"=some (.type "list"):=by decide +kernel
theorem Zau:bootBuiltins "tuple"=some (.type "tuple"):=by decide +kernel
theorem ZiD:bootBuiltins "ValueError"=some (.type "ValueError"):=by decide +kernel
section
variable {X:Cx}{pins:List (Addr×Obj)}{σ:St}{H:Hp}{s:Shared}{h':Heap}
theorem Inv.ZjI {t':Nat}{fp:List Addr} (I:Inv X pins σ H s) (k:∀b o,b∉fp->s.heap.get? b=some o->h'.get? b=some o) (hf:∀b∈fp,FpOk X pins H b):Inv X pins σ H {s with heap:=h',toks:=t'}:=by
 have nit:∀b u,H b=some u->b∉fp:=λb u e z=>by rw[(hf b z).1]at e;cases e
 refine I.step (g':=s.gens) (d':=s.drawn) (ch:=fp) (λb hb=>?_) (λb o _ _ hc e _=>k b o hc e) (λb o _ _ hc e _=>⟨o.slots,k b o hc e⟩) (λ_ _ _ _ n=>n)
  (λb o hc e=>⟨o,k b o hc e⟩) (λ_ _ e=>e) (λ_ _ _ e=>e) (λb ps e=>⟨#[],by rw[e];simp⟩) (λm hm=>?_) (λb u e=>?_) I.bare
 ·obtain⟨_,f1,_,f3,f4,f5⟩:=hf b hb
  exact⟨f3,f1,f4,f5⟩
 ·obtain⟨o,es,ep,ho,r⟩:=hm
  exact⟨o,es,ep,k _ o (λz=>(hf _ z).2.1 rfl) ho,r⟩
 ·refine(I.hok b u e).ZfQ (λc v hc q=>k c v ?_ q) (λ_ q=>q) (λ_ _ q=>q) λ_ _ _ q=>q
  rcases hc with z|z
  ·rw[z];exact nit b u e
  ·exact nit c _ z
theorem zapart (n a b:Nat) (h1:a<n) (h2:b<n):ZipApart (n+4) (n+2) (n+3) n (n+1) a b:=by
 constructor<;>(show ¬ ((_:Nat)=_);omega)
theorem Znf:bootBuiltins "zip"=some (.type "zip"):=by decide +kernel
end
theorem cxK {CX:CXT}{P:Program}{w:World}{K:Frag}{mg:Str->Option Value}{base:Heap}{N:List Str}{qual:Str}{scope:Scope}{f:Addr}{cd:Value}{A:Around}{outer:List Env}{s:Shared}{H:Hp}{E:XK} :
  (ZfT CX P w K mg base N qual scope f cd A outer s H E).K=K:=rfl
theorem Zg.upd {H H1:Hp}{p:Addr}{o:HO} (h:H p=none) (e:Zg H H1):Zg H (upd H1 p o):=λb u z=>by
 rw[Zj (Zv z h)];exact e b u z
theorem Zg.ZT {H H1:Hp}{p:Addr}{o:HO} (e:Zg H H1) (h:H1 p=none):Zg H (L2.upd H1 p o):=e.upd (e.free h)
theorem ZjJ {X:Cx}{K:Frag}{es:List Expr}{pos:Pos}{k:Nat}{t:TGs}{n:Nat} (hK:X.K=K) (hc:X.calm=true) (h:PGs X es t)
  (hn:(assignEach es X.env).length=n:=by rfl) (hst:(assignEach es X.env).findIdx? (·.1)=none:=by rfl):PG X (.Tuple es k pos) (gTup K n t):=hK▸Zhx hc h hn hst
noncomputable def LoopR (J:It) (g:TG) (tb:TS) (D:Ends) (σ:St) (H1:Hp):Prop:=∃W:Nat->Nat->St->Hp->Prop,(∃m,W 0 m σ H1)/\∀i m σ H,W i m σ H ->
 (J.stop i H/\D.nx σ H)\/(J.go i H/\∃N:St->Hp->Prop,(∀σ' H',N σ' H'->∃m',m'<m/\W (i+1) m' σ' H')/\∀x H',J.yld i H x H'->g x σ H' fun σ2 H2=>tb {D with nx:=N,ct:=N,bk:=D.nx} σ2 H2)
theorem ZmA {wi:TI}{g:TG}{tb:TS}{D:Ends}{σ:St}{H:Hp}:tFor wi g tb D σ H=wi σ H λJ H1=>LoopR J g tb D σ H1:=rfl
noncomputable def ZlD (c:TT) (tb:TS) (D:Ends) (σ:St) (H:Hp):Prop:=Zls c tb D σ H
theorem Zi9 {c:TT}{tb:TS}{D:Ends}{σ:St}{H:Hp}:Zls c tb D σ H=ZlD c tb D σ H:=rfl
noncomputable def Zkz (J:It) (g:TG) (tt:TT) (te:TE) (σ0:St) (Q:VK) (H1:Hp):Prop:=∃W:Nat->Nat->List V->Hp->Prop,(∃m,W 0 m [] H1)/\∀i m acc H,W i m acc H ->
 (J.stop i H/\acc.length<=sizeLine/\∀p,H p=none->Q (.ref p) (upd H p (.lst acc))) \/
 (J.go i H/\acc.length<sizeLine/\∀x H',J.yld i H x H'->g x σ0 H' fun σ2 H2=>tt σ2 H2 λb H3=>if b=true then te σ2 H3 λv H4=>∃m',m'<m/\W (i+1) m' (acc++[v]) H4 else ∃m',m'<m/\W (i+1) m' acc H3)
theorem ZkA {wi:TI}{g:TG}{tt:TT}{te:TE}{js:List (Option Nat)}{σ:St}{H:Hp}{Q:VK}:Zmx wi g tt te js σ H Q=wi σ H λJ H1=>Zkz J g tt te (ZW js σ) Q H1:=rfl
noncomputable def CW (n:Nat) (vals:Nat->V) (H1:Hp) (i m:Nat) (acc:List V) (H:Hp):Prop:=m=n-i/\i<=n/\acc=(List.range i).map vals/\Zg H1 H
theorem CW.next {n:Nat}{vals:Nat->V}{H1 H:Hp}{i:Nat}{v:V} (hi:i<n) (hv:v=vals i) (s:Zg H1 H):∃m',m'<n-i/\CW n vals H1 (i+1) m' ((List.range i).map vals++[v]) H :=
 ⟨n-(i+1),by omega,rfl,hi,by rw[YT,YX,hv];rfl,s⟩
theorem comp_map {J:It}{n:Nat}{H1:Hp}{g:TG}{tt:TT}{te:TE}{σ0:St}{Q:VK} (vals:Nat->V) (hn:n<sizeLine) (hgo:∀i H,Zg H1 H->i<n->J.go i H) (hstop:∀H,Zg H1 H->J.stop n H)
  (hb:∀i x H H',i<n->Zg H1 H->J.yld i H x H'->g x σ0 H' fun σ2 H2=>tt σ2 H2 λb H3=>if b=true then te σ2 H3 λv H4=>∃m',m'<n-i/\CW n vals H1 (i+1) m' ((List.range i).map vals++[v]) H4 else ∃m',m'<n-i/\CW n vals H1 (i+1) m' ((List.range i).map vals) H3)
  (hk:∀l H',Zg H1 H'->H' l=none->Q (.ref l) (upd H' l (.lst ((List.range n).map vals)))) :
  Zkz J g tt te σ0 Q H1:=by
 refine⟨CW n vals H1,⟨n,rfl,Yt _,rfl,Zg.refl _⟩,?_⟩
 rintro i m acc H ⟨rfl,hi,rfl,s⟩
 by_cases h:i<n
 ·refine .inr ⟨hgo i H s h,by simpa using Nat.lt_trans h hn,λx H' y=>hb i x H H' h s y⟩
 ·have e:i=n:=by omega
  subst e
  exact .inl ⟨hstop H s,by simpa using YW hn,λp hp=>hk p H s hp⟩
theorem ZhE {α:Type}{xs:List α}{i:Int}{j:Nat} (h:i=(j:Int)) (hj:j<xs.length):atI xs i=some xs[j]:=by
 subst h
 unfold atI ixN
 rw[Yd (by omega),Yd (by omega)]
 simp
theorem ZjK {α:Type}{xs:List α}{i:Int} (C:α->Prop) (h0:0<=i) (h1:i<xs.length) (h:∀x∈xs,C x):∃v,atI xs i=some v/\C v:=by
 obtain⟨j,rfl⟩:=YZ h0
 have hj:j<xs.length:=by omega
 exact⟨xs[j],ZhE rfl hj,h _ (YR hj)⟩
theorem mul_r {a b:Int} (h1:-(2 ^ 64)<b) (h2:b<2 ^ 64):IntMulOk a b:=IntMulOk.of_right (intBits_le_64 h1 h2)
theorem ZmB {a b:Int} (h1:-(2 ^ 64)<a) (h2:a<2 ^ 64):IntMulOk a b:=IntMulOk.of_left (intBits_le_64 h1 h2)
theorem ZjL {a b:Int} (ha:Builtin.Int.intBits a<=2 ^ 20) (hb:Builtin.Int.intBits b<=2 ^ 20):IntMulOk a b:=IntMulOk.of_bits ha hb
theorem cp18:Zlu 10 18:=by unfold Zlu;decide
theorem cp59:Zlu 10 59:=by unfold Zlu;decide
noncomputable def Exc (p:Addr) (H H':Hp):Prop:=∀b o,b≠p->H b=some o->H' b=some o
theorem Zg.exc {H H1 H2:Hp}{p:Addr} (s:Zg H H1) (h:H p=none) (e:Exc p H1 H2):Zg H H2:=λb o z=>e b o (Zv z h) (s b o z)
theorem Zg.Zbv {H H':Hp}{p:Addr} (s:Zg H H'):Exc p H H':=λb o _ z=>s b o z
theorem Exc.upd {H:Hp}{p:Addr}{o:HO}:Exc p H (L2.upd H p o):=λb u n z=>by rw[Zj n];exact z
theorem range_getD {α β:Type} (xs:List α) (d:α) (f:α->β) (n:Nat) (h:n=xs.length):(List.range n).map (λj=>f (xs.getD j d))=xs.map f:=by
 subst h
 refine List.ext_getElem (by simp) λj h1 h2=>?_
 have hj:j<xs.length:=by simpa using h1
 simp[Yp,hj]
theorem Zai {K:Frag}{H:Hp}{p:Addr}{xs:List V} (h:H p=some (.lst xs)):tyV K "list" (.ref p) H:=.inl ⟨rfl,_,SqL.of h⟩
theorem ZmC {i j:Int}:Zko (.int i) (.int j)=true:=rfl
theorem ZmD {i j:Bool}:Zko (.bl i) (.bl j)=true:=rfl
theorem ZmE {i j:Str}:Zko (.str i) (.str j)=true:=rfl
theorem ZmF:Zko .non .non=true:=rfl
theorem ZmG {i:Int}:Zko .non (.int i)=true:=rfl
theorem ZmH {i:Int}:Zko (.int i) .non=true:=rfl
section
variable {X:Cx}
noncomputable def rLen (K:Frag):List V->Hp->VK->Prop:=λxs H Q=>∃p ys,xs=[.ref p]/\(SqL K H p ys\/SqT K H p ys)/\Q (.int ys.length) H
theorem Zk {K:Frag} (hK:X.K=K):Zb4 X (.builtin "len") (rLen K):=by subst hK;exact ZjA
noncomputable def rLof (K:Frag):List V->Hp->VK->Prop:=λxs H Q=>∃p ys,xs=[.ref p]/\(SqL K H p ys\/SqT K H p ys)/\∀l,H l=none->Q (.ref l) (upd H l (.lst ys))
theorem Zfp {K:Frag} (hK:X.K=K):Zb4 X (.type "list") (rLof K):=by subst hK;exact ZjB
noncomputable def rTof (K:Frag):List V->Hp->VK->Prop:=λxs H Q=>∃p ys,xs=[.ref p]/\((SqL K H p ys/\∀l,H l=none->Q (.ref l) (upd H l (.tup ys)))\/(SqT K H p ys/\Q (.ref p) H))
theorem ZaT {K:Frag} (hK:X.K=K):Zb4 X (.type "tuple") (rTof K):=by subst hK;exact ZiA
theorem ZM {K:Frag} (hK:X.K=K):Zb4 X (.builtin "isinstance") (rIsi K):=by subst hK;exact ZoX
end
theorem tyE {K:Frag}{H:Hp}{e C:Addr}{c:Value}{b:Bool} (he:H e=some (ZiB e C)) (Z:ExK K C) (k:kitOne K (.ref C) c=some b):tyIs K H (.ref e) c b:=.inr ⟨e,C,rfl,he,Z,k⟩
theorem ZkB {K:Frag}{t:Value}:kitOne K t t=some true:=by unfold kitOne;simp
theorem ZV {K:Frag}{A C:Addr}{b:Bool} (ne:A≠C) (h1:hasDictIn K C=true) (h2:typeIn K (.ref C)=some (.type "type")) (h3:subIn K (.ref A) (.ref C)=some b):kitOne K (.ref A) (.ref C)=some b:=by
 obtain⟨cd,hc,_⟩:=any_some h1
 unfold kitOne
 rw[Yb (by intro z;exact ne (Value.ref.inj (beq_iff_eq.mp z)))]
 unfold kitCls
 dsimp only
 rw[Yd (by rw[hc,h2];rfl)]
 exact h3
theorem kit_V {K:Frag}{A:Addr}{b:Bool} (h:subIn K (.ref A) (.type "ValueError")=some b):kitOne K (.ref A) (.type "ValueError")=some b:=by
 unfold kitOne
 rw[Yb (by intro z;cases beq_iff_eq.mp z)]
 unfold kitCls
 dsimp only
 rw[Yd (by decide +kernel)]
 exact h
theorem ZmI {a:Addr}{x:Value}:(cOf (.ref a)=some x)=(.ref a=x):=by simp[cOf]
theorem Zo4 {n:String}{x:Value}:(cOf (.ty n)=some x)=(.type n=x):=by simp[cOf]
theorem Zo5 {α:Type}{f:Nat->Option α}{g:Nat->α}:∀{l:List Nat},(∀k∈l,f k=some (g k))->l.filterMap f=l.map g
 |[],_=>rfl
 |k::r,h=>by
  rw[List.filterMap_cons,h k (Yx ..),YO,Zo5 λj hj=>h j (Yz _ hj)]
theorem Zo6 (its:List Value):slicePick its.toArray none none (some (-1))=its.reverse.toArray:=by
 have e:=PyProof.Rows.picked_rev its.length
 unfold Builtin.Str.strSliceIndices at e
 have e2:sliceRange ((its.length:Int)-1) (-1) (-1)=(List.range its.length).map λk=>its.length-1-k:=by
  rw[<-e];rfl
 unfold slicePick
 congr 1
 show((sliceRange ((its.toArray.size:Int)-1) (-1) (-1)).filterMap (its.toArray[·]?))=_
 rw[Yr,e2,List.filterMap_map,Zo5 (g:=λk=>(its.reverse[k]?).getD .none)]
 ·refine List.ext_getElem (by simp) λj h1 h2=>?_
  have hj:j<its.length:=by simpa using h1
  simp[hj]
 ·intro k hk
  have hk':k<its.length:=YF.mp hk
  have h3:its.length-1-k<its.length:=by omega
  simp[hk',h3]
section
variable {X:Cx}{e st:Expr}{te ts:TE}{pos p2:Pos}
noncomputable def tRev (K:Frag) (te ts:TE):TE:=fun σ H Q=>te σ H λx H1=>ts σ H1 λz H2=>∃a xs,x=.ref a/\z=.int (-1)/\SqL K H2 a xs/\∀p,H2 p=none->Q (.ref p) (upd H2 p (.lst xs.reverse))
theorem Vals.rev:∀{xs:List V}{us:List Value},Vals xs us->Vals xs.reverse us.reverse:=by
 intro xs us h
 induction h with
 |nil=>exact .nil
 |cons r _ ih=>rw[List.reverse_cons,List.reverse_cons];exact ih.append (.cons r .nil)
theorem Zng {K:Frag} (hK:X.K=K) (he:PE X e te) (hs:PE X st ts):PE X (.Subscript e (.Slice none none (some st) p2) pos) (tRev K te ts):=by
 subst hK
 intro pins s σ H Q I h
 refine Subscript_ (thn (he pins s σ H _ I h) λv s1 ⟨x,H1,I1,r1,q1⟩=>?_)
 refine wpAny_Slice ?_
 rw[evalPart_none]
 refine Yc ?_
 refine Yc ?_
 rw[evalPart_some]
 refine thn (hs pins s1 σ H1 _ I1 q1) λvs s2 ⟨z,H2,I2,r2,a,xs,e1,e2,hx,q⟩=>?_
 subst e1 e2
 obtain⟨tk,rfl⟩:=r2
 cases r1
 have I4:Inv X pins σ H2 {s2 with heap:=s2.heap.push {cls:=.type "slice",data:=.fields #[.none,.none,.int (-1) tk]}}:=I2.kept (t':=s2.toks) λb ob q=>Yi _ q
 show wpAny (model X.prog X.w) X.A (subscriptTail e (.Slice none none (some st) p2) (.ref a) (.ref s2.heap.objs.size)) (EP X pins σ Q) X.xe {s2 with heap:=s2.heap.push {cls:=.type "slice",data:=.fields #[.none,.none,.int (-1) tk]}}
 obtain⟨its,r,ht,hz⟩:=I4.list hx
 have hlen:=r.length
 refine tail_any (ops:=[.ref a,.ref s2.heap.objs.size]) ht.isList.typeIs slot_list_getitem.lookup ?_ (by with_unfolding_all rfl)
 refine wpAny_getItem_list_slice (s:={s2 with heap:=s2.heap.push {cls:=.type "slice",data:=.fields #[.none,.none,.int (-1) tk]}}) ht.isList (Heap.IsSliceOf.new ..) .none .none (.int (-1) tk) (by simp) ?_ (by rw[Yr]<;>omega)
 rw[Zo6]
 refine⟨.ref _,_,I4.laid (t':=s2.toks) (o:=.lst xs.reverse) (λb ob q=>Yi _ q) (Yf _) ?_,rfl,q _ (I4.hok.fresh (Yf _))⟩
 exact⟨by rw[List.length_reverse];exact hz,_,0,r.rev,Yv _ rfl⟩
end
theorem Zrr (xs:List V):Zcy xs none (some 1)=xs.take 1:=by
 unfold Zcy HT.sIx
 cases xs<;>simp
noncomputable def Rows (H:Hp) (l:Addr) (rs:List (List Int)):Prop:=∃as:List Addr,H l=some (.lst (as.map V.ref))/\l∉as/\as.length=rs.length/\∀i (h1:i<as.length) (h2:i<rs.length),H as[i]=some (.lst (rs[i].map V.int))
inductive EqD (K:Frag) (H:Hp):Nat->V->V->Bool->Prop
 |flat {n:Nat}{x y:V} (fx:flatV x=true) (fy:flatV y=true):EqD K H n x y (eqV x y)
 |lst {n:Nat}{a b:Addr}{xs ys:List V} (e:Nat->Bool) (hx:SqL K H a xs) (hy:SqL K H b ys) (hl:xs.length=ys.length) (h:∀j x y,xs[j]?=some x->ys[j]?=some y->EqD K H n x y (e j)):EqD K H (n+1) (.ref a) (.ref b) ((List.range xs.length).all e)
 |len {n:Nat}{a b:Addr}{xs ys:List V} (hx:SqL K H a xs) (hy:SqL K H b ys) (hl:xs.length≠ys.length):EqD K H (n+1) (.ref a) (.ref b) false
 |tup {n:Nat}{a b:Addr}{xs ys:List V} (e:Nat->Bool) (hx:SqT K H a xs) (hy:SqT K H b ys) (h:∀j x y,xs[j]?=some x->ys[j]?=some y->EqD K H n x y (e j)):EqD K H (n+1) (.ref a) (.ref b) ((List.range (min xs.length ys.length)).all e&&xs.length==ys.length)
theorem Zo7 {x:V} (h:flatV x=true):eqV x x=true:=by
 cases x<;>first
  |rfl
  |(simp[eqV];done)
  |cases h
section
variable {X:Cx}{pins:List (Addr×Obj)}{σ:St}{H:Hp}{s:Shared}
theorem ZkC (I:Inv X pins σ H s) {n:Nat}{x y:V}{b:Bool} (h:EqD X.K H n x y b):x=y->b=true:=by
 induction h with
 |flat fx fy=>rintro rfl;exact Zo7 fx
 |lst e hx hy hl h ih =>
  intro z
  cases z
  have:=I.ZcV hx hy
  subst this
  refine List.all_eq_true.mpr λj hj=>?_
  have hj':=YF.mp hj
  exact ih j _ _ (Yh hj') (Yh hj') rfl
 |len hx hy hl =>
  intro z
  cases z
  have:=I.ZcV hx hy
  subst this
  exact absurd rfl hl
 |tup e hx hy h ih =>
  intro z
  cases z
  have:=I.Zi1 hx hy
  subst this
  rw[Nat.min_self]
  have:(List.range _).all e=true:=List.all_eq_true.mpr λj hj=>by
   have hj':=YF.mp hj
   exact ih j _ _ (Yh hj') (Yh hj') rfl
  rw[this];simp
theorem ZjM (I:Inv X pins σ H s) {n:Nat}{x y:V}{b:Bool} (h:EqD X.K H n x y b):∀(A:Around) (u v:Value),A.units+n<cLine->RelV x u->RelV y v->SeqAt.EqAt A s u v b:=by
 induction h with
 |flat fx fy=>intro A u v _ ru rv;exact ZoS ru rv fx fy
 |@lst n a b xs ys e hx hy hl h ih =>
  intro A u v hu ru rv
  have hb:=ZkC I (.lst e hx hy hl h)
  cases ru
  cases rv
  by_cases hab:a=b
  ·subst hab
   rw[hb rfl];exact SeqAt.EqAt.same _
  ·obtain⟨is1,r1,p1,_⟩:=I.list hx
   obtain⟨is2,r2,p2,_⟩:=I.list hy
   have e1:=r1.length
   have e2:=r2.length
   have key:=SeqAt.RcAt.lists (A:=A) (s:=s) (e:=e) p1.isList p2.isList (by simp;omega) (by omega) λj h1 h2=>by
    have h1':j<xs.length:=by simpa[e1]using h1
    have h2':j<ys.length:=by simpa[e2]using h2
    obtain⟨u,hu1,ru⟩:=r1.get (Yh h1')
    obtain⟨v,hv1,rv⟩:=r2.get (Yh h2')
    have eu:is1.toArray[j]=u:=by simpa using(Yw.mp hu1).2
    have ev:is2.toArray[j]=v:=by simpa using(Yw.mp hv1).2
    rw[eu,ev]
    exact ih j _ _ (Yh h1') (Yh h2') A.in1 u v (by show A.units+1+n<cLine;omega) ru rv
   have e3:is1.toArray.size=xs.length:=by simp[e1]
   rw[e3]at key
   exact SeqAt.EqAt.of_refs hab key
 |@len n a b xs ys hx hy hl =>
  intro A u v hu ru rv
  cases ru
  cases rv
  have hab:a≠b:=λz=>by subst z;exact hl (congrArg List.length (I.ZcV hx hy))
  obtain⟨is1,r1,p1,_⟩:=I.list hx
  obtain⟨is2,r2,p2,_⟩:=I.list hy
  have e1:=r1.length
  have e2:=r2.length
  exact SeqAt.EqAt.of_refs hab (SeqAt.RcAt.lists_lengths p1.isList p2.isList (by simp;omega) (by omega))
 |@tup n a b xs ys e hx hy h ih =>
  intro A u v hu ru rv
  have hb:=ZkC I (.tup e hx hy h)
  cases ru
  cases rv
  by_cases hab:a=b
  ·subst hab
   rw[hb rfl];exact SeqAt.EqAt.same _
  ·obtain⟨is1,r1,p1,_⟩:=I.tuple hx
   obtain⟨is2,r2,p2,_⟩:=I.tuple hy
   have e1:=r1.length
   have e2:=r2.length
   have key:=SeqAt.RcAt.tuples (A:=A) (s:=s) (e:=e) p1 p2 (by omega) λj h1 h2=>by
    have h1':j<xs.length:=by simpa[e1]using h1
    have h2':j<ys.length:=by simpa[e2]using h2
    obtain⟨u,hu1,ru⟩:=r1.get (Yh h1')
    obtain⟨v,hv1,rv⟩:=r2.get (Yh h2')
    have eu:is1.toArray[j]=u:=by simpa using(Yw.mp hu1).2
    have ev:is2.toArray[j]=v:=by simpa using(Yw.mp hv1).2
    rw[eu,ev]
    exact ih j _ _ (Yh h1') (Yh h2') A.in1 u v (by show A.units+1+n<cLine;omega) ru rv
   have e3:is1.toArray.size=xs.length:=by simp[e1]
   have e4:is2.toArray.size=ys.length:=by simp[e2]
   rw[e3,e4]at key
   exact SeqAt.EqAt.of_refs hab key
end
noncomputable def rEqD (K:Frag) (neg:Bool):R2:=λx y H Q=>∃a b k,x=.ref a/\y=.ref b/\EqD K H 3 x y k/\Q (.bl (if neg then !k else k)) H
section
variable {X:Cx}
theorem Zfq {K:Frag} (hK:X.K=K) {k:Nat} (hr:Room k X.A):OpR X (compareOp .Eq) (rEqD K false):=by
 subst hK
 have hu0:=hr.un
 intro pins s σ H x y v u Q I rx ry h
 obtain⟨a,b,k,rfl,rfl,h,q⟩:=h
 cases rx
 cases ry
 cases h with
 |flat fx fy=>cases fx
 |@lst n _ _ xs ys e hx hy hl h =>
  obtain⟨is1,r1,p1,_⟩:=I.list hx
  obtain⟨is2,r2,p2,_⟩:=I.list hy
  have e1:=r1.length
  have e2:=r2.length
  have e3:is1.toArray.size=xs.length:=by simp[e1]
  refine SeqAt.eq_listAt (e:=e) p1.isList p2.isList (by simp;omega) (by omega) (λj h1 h2=>?_) ⟨.bl _,H,I,rfl,by rw[e3];exact q⟩
  have h1':j<xs.length:=by simpa[e1]using h1
  have h2':j<ys.length:=by simpa[e2]using h2
  obtain⟨u,hu1,ru⟩:=r1.get (Yh h1')
  obtain⟨v,hv1,rv⟩:=r2.get (Yh h2')
  have eu:is1.toArray[j]=u:=by simpa using(Yw.mp hu1).2
  have ev:is2.toArray[j]=v:=by simpa using(Yw.mp hv1).2
  rw[eu,ev]
  exact ZjM I (h j _ _ (Yh h1') (Yh h2')) X.A.in1 u v (by show X.A.units+1+2<cLine;omega) ru rv
 |@len n _ _ xs ys hx hy hl =>
  obtain⟨is1,r1,p1,_⟩:=I.list hx
  obtain⟨is2,r2,p2,_⟩:=I.list hy
  have e1:=r1.length
  have e2:=r2.length
  exact SeqAt.eq_list_lengthsAt p1.isList p2.isList (by simp;omega) (by omega) ⟨.bl _,H,I,rfl,q⟩
 |@tup n _ _ xs ys e hx hy h =>
  obtain⟨is1,r1,p1,_⟩:=I.tuple hx
  obtain⟨is2,r2,p2,_⟩:=I.tuple hy
  have e1:=r1.length
  have e2:=r2.length
  have e3:is1.toArray.size=xs.length:=by simp[e1]
  have e4:is2.toArray.size=ys.length:=by simp[e2]
  refine SeqAt.eq_tupleAt (e:=e) p1 p2 (by omega) (λj h1 h2=>?_) ⟨.bl _,H,I,rfl,by rw[e3,e4];exact q⟩
  have h1':j<xs.length:=by simpa[e1]using h1
  have h2':j<ys.length:=by simpa[e2]using h2
  obtain⟨u,hu1,ru⟩:=r1.get (Yh h1')
  obtain⟨v,hv1,rv⟩:=r2.get (Yh h2')
  have eu:is1.toArray[j]=u:=by simpa using(Yw.mp hu1).2
  have ev:is2.toArray[j]=v:=by simpa using(Yw.mp hv1).2
  rw[eu,ev]
  exact ZjM I (h j _ _ (Yh h1') (Yh h2')) X.A.in1 u v (by show X.A.units+1+2<cLine;omega) ru rv
theorem op_neD {K:Frag} (hK:X.K=K) {k:Nat} (hr:Room k X.A):OpR X (compareOp .NotEq) (rEqD K true):=by
 subst hK
 have hu0:=hr.un
 intro pins s σ H x y v u Q I rx ry h
 obtain⟨a,b,k,rfl,rfl,h,q⟩:=h
 cases rx
 cases ry
 cases h with
 |flat fx fy=>cases fx
 |@lst n _ _ xs ys e hx hy hl h =>
  obtain⟨is1,r1,p1,_⟩:=I.list hx
  obtain⟨is2,r2,p2,_⟩:=I.list hy
  have e1:=r1.length
  have e2:=r2.length
  have e3:is1.toArray.size=xs.length:=by simp[e1]
  refine SeqAt.RcNeAt.lists (e:=e) p1.isList p2.isList (by simp;omega) (by omega) (λj h1 h2=>?_) _ _ _ _ ⟨.bl _,H,I,rfl,by rw[e3];exact q⟩
  have h1':j<xs.length:=by simpa[e1]using h1
  have h2':j<ys.length:=by simpa[e2]using h2
  obtain⟨u,hu1,ru⟩:=r1.get (Yh h1')
  obtain⟨v,hv1,rv⟩:=r2.get (Yh h2')
  have eu:is1.toArray[j]=u:=by simpa using(Yw.mp hu1).2
  have ev:is2.toArray[j]=v:=by simpa using(Yw.mp hv1).2
  rw[eu,ev]
  exact ZjM I (h j _ _ (Yh h1') (Yh h2')) X.A.in1 u v (by show X.A.units+1+2<cLine;omega) ru rv
 |@len n _ _ xs ys hx hy hl =>
  obtain⟨is1,r1,p1,_⟩:=I.list hx
  obtain⟨is2,r2,p2,_⟩:=I.list hy
  have e1:=r1.length
  have e2:=r2.length
  exact SeqAt.RcNeAt.lists_lengths p1.isList p2.isList (by simp;omega) (by omega) _ _ _ _ ⟨.bl _,H,I,rfl,q⟩
 |@tup n _ _ xs ys e hx hy h =>
  obtain⟨is1,r1,p1,_⟩:=I.tuple hx
  obtain⟨is2,r2,p2,_⟩:=I.tuple hy
  have e1:=r1.length
  have e2:=r2.length
  have e3:is1.toArray.size=xs.length:=by simp[e1]
  have e4:is2.toArray.size=ys.length:=by simp[e2]
  refine SeqAt.RcNeAt.tuples (e:=e) p1 p2 (by omega) (λj h1 h2=>?_) _ _ _ _ ⟨.bl _,H,I,rfl,by rw[e3,e4];exact q⟩
  have h1':j<xs.length:=by simpa[e1]using h1
  have h2':j<ys.length:=by simpa[e2]using h2
  obtain⟨u,hu1,ru⟩:=r1.get (Yh h1')
  obtain⟨v,hv1,rv⟩:=r2.get (Yh h2')
  have eu:is1.toArray[j]=u:=by simpa using(Yw.mp hu1).2
  have ev:is2.toArray[j]=v:=by simpa using(Yw.mp hv1).2
  rw[eu,ev]
  exact ZjM I (h j _ _ (Yh h1') (Yh h2')) X.A.in1 u v (by show X.A.units+1+2<cLine;omega) ru rv
end
noncomputable def IsI (v:V) (i:Int):Prop:=v=.int i
noncomputable def IsL (K:Frag) (H:Hp) {α:Type} (P:V->α->Prop) (v:V) (as:List α):Prop:=∃a xs,v=.ref a/\SqL K H a xs/\xs.length=as.length/\∀(j:Nat) (x:V) (y:α),xs[j]?=some x->as[j]?=some y->P x y
noncomputable def IsT (K:Frag) (H:Hp) {α:Type} (P:V->α->Prop) (v:V) (as:List α):Prop:=∃a xs,v=.ref a/\SqT K H a xs/\xs.length=as.length/\∀(j:Nat) (x:V) (y:α),xs[j]?=some x->as[j]?=some y->P x y
noncomputable def EqP (K:Frag) (H:Hp) (n:Nat) {α:Type} [DecidableEq α] (P:V->α->Prop):Prop:=∀x y a b,P x a->P y b->EqD K H n x y (decide (a=b))
theorem Zf0 {K:Frag}{H:Hp}{n:Nat}:EqP K H n IsI:=by
 rintro x y a b rfl rfl
 have:=EqD.flat (K:=K) (H:=H) (n:=n) (x:=.int a) (y:=.int b) rfl rfl
 have e:eqV (.int a) (.int b)=decide (a=b):=by simp[eqV,Bool.beq_eq_decide_eq]
 rw[<-e];exact this
theorem all_eq {α:Type} [DecidableEq α] (as bs:List α) (h:as.length=bs.length):(List.range as.length).all (λj=>decide (as[j]?=bs[j]?))=decide (as=bs):=by
 rw[Bool.eq_iff_iff,List.all_eq_true,decide_eq_true_iff]
 constructor
 ·intro q
  refine List.ext_getElem? λj=>?_
  by_cases hj:j<as.length
  ·simpa using q j (YF.mpr hj)
  ·rw[List.getElem?_eq_none (by omega),List.getElem?_eq_none (by omega)]
 ·rintro rfl j _;simp
theorem ZmJ {K:Frag}{H:Hp}{n:Nat}{α:Type} [DecidableEq α] {P:V->α->Prop} (h:EqP K H n P):EqP K H (n+1) (IsL K H P):=by
 rintro x y as bs ⟨a,xs,rfl,hx,lx,px⟩ ⟨b,ys,rfl,hy,ly,py⟩
 by_cases hl:as.length=bs.length
 ·rw[<-all_eq as bs hl,<-lx]
  refine .lst _ hx hy (by omega) λj x y h1 h2=>?_
  have j1:=(Yw.mp h1).1
  have j2:=(Yw.mp h2).1
  have ha:as[j]?=some as[j]:=Yh (by omega)
  have hb:bs[j]?=some bs[j]:=Yh (by omega)
  have:=h x y _ _ (px j _ _ h1 ha) (py j _ _ h2 hb)
  rw[ha,hb]
  simpa using this
 ·have e:decide (as=bs)=false:=by simp;intro z;exact hl (congrArg List.length z)
  rw[e]
  exact .len hx hy (by omega)
theorem ZjN {K:Frag}{H:Hp}{n:Nat}{α:Type} [DecidableEq α] {P:V->α->Prop} (h:EqP K H n P):EqP K H (n+1) (IsT K H P):=by
 rintro x y as bs ⟨a,xs,rfl,hx,lx,px⟩ ⟨b,ys,rfl,hy,ly,py⟩
 have key:=EqD.tup (K:=K) (H:=H) (n:=n) (λj=>decide (as[j]?=bs[j]?)) hx hy λj x y h1 h2=>by
  have j1:=(Yw.mp h1).1
  have j2:=(Yw.mp h2).1
  have ha:as[j]?=some as[j]:=Yh (by omega)
  have hb:bs[j]?=some bs[j]:=Yh (by omega)
  have:=h x y _ _ (px j _ _ h1 ha) (py j _ _ h2 hb)
  rw[ha,hb]
  simpa using this
 have e:((List.range (min xs.length ys.length)).all (λj=>decide (as[j]?=bs[j]?))&&xs.length==ys.length)=decide (as=bs):=by
  rw[lx,ly]
  by_cases hl:as.length=bs.length
  ·rw[<-hl,Nat.min_self,all_eq as bs hl];simp
  ·have e:decide (as=bs)=false:=by simp;intro z;exact hl (congrArg List.length z)
   rw[e]
   simp[hl]
 rw[e]at key
 exact key
theorem Zf1 {K:Frag}{H:Hp}{a:Addr}{ns:List Int} (h:SqL K H a (ns.map V.int)):IsL K H IsI (.ref a) ns:=⟨a,_,rfl,h,by simp,λj x y h1 h2=>by
 rw[YH,h2]at h1
 exact(YD h1).symm⟩
theorem Zc0 {K:Frag}{H:Hp}{a:Addr}{ns:List Int} (h:SqT K H a (ns.map V.int)):IsT K H IsI (.ref a) ns:=⟨a,_,rfl,h,by simp,λj x y h1 h2=>by
 rw[YH,h2]at h1
 exact(YD h1).symm⟩
section
variable {X:Cx}
noncomputable def Zo8 (ta:TA):TE:=fun σ H Q=>ta σ H λvs H1=>∃j:Int,vs=[.int j]/\-(2 ^ 62)<=j/\j<2 ^ 62/\∀p,H1 p=none->Q (.ref p) (upd H1 p (.rng 0 j))
theorem Znh {a:Expr}{ta:TA}{p pos:Pos} (hg:Gl X "range") (hm:X.mg "range"=none) (ha:PA X [a] ta) (hs:starEach [a] X.env=[(false,eval a X.env)]:=by rfl):PE X (.Call (.Name "range" p) [a] [] pos) (Zo8 ta):=by
 intro pins s σ H Q I h
 refine wpAny_Call_Name_kw (Zcw I hg hm boot_range (PyProof.Rows.callWith_type1 (thn (ha pos pins s σ H _ I h) λus s1 ⟨vs,H1,I1,r1,q1⟩=>?_) hs rfl))
 obtain⟨j,e,q1,q2,q⟩:=q1
 subst e
 obtain⟨u,rfl,ru⟩:=r1.one
 obtain⟨t,rfl⟩:=ru
 refine call_range_1 ⟨.ref s1.heap.objs.size,_,I1.laid (λb o e=>Yi _ e) (Yf _) ?_,rfl,q _ (I1.hok.fresh (Yf _))⟩
 exact⟨_,_,_,Yv _ rfl⟩
theorem Zrs {g:Nat->V}{P:Nat->Value->Prop} (hP:∀i v,P i v->RelV (g i) v):∀(n:Nat) (us:List Value),us.length=n->(∀(j:Nat) (v:Value),us[j]?=some v->P j v)->Vals ((List.range n).map g) us:=by
 intro n
 induction n with
 |zero =>
  intro us hl _
  cases us with
  |nil=>exact .nil
  |cons _ _=>cases hl
 |succ n ih =>
  intro us hl h
  have hne:us≠[]:=λz=>by rw[z]at hl;cases hl
  rw[YT,YX,<-List.dropLast_concat_getLast hne]
  have hl2:us.dropLast.length=n:=by rw[List.length_dropLast,hl];rfl
  refine(ih us.dropLast hl2 λj v hj=>?_).append (.cons ?_ .nil)
  ·have hj2:=(Yw.mp hj).1
   refine h j v ?_
   rw[List.getElem?_dropLast]at hj
   split at hj
   ·exact hj
   ·cases hj
  ·refine hP n _ (h n _ ?_)
   rw[List.getLast_eq_getElem]
   rw[Yw]
   refine⟨by omega,?_⟩
   congr 1
   omega
noncomputable def rAll (K:Frag):List V->Hp->VK->Prop:=λxs H Q=>∃(p:Addr) (bs:List Bool),xs=[.ref p]/\SqL K H p (bs.map V.bl)/\Q (.bl (bs.all id)) H
theorem all_ix (bs:List Bool):(List.range bs.length).all (λi=>bs.getD i false)=bs.all id:=by
 rw[Bool.eq_iff_iff,List.all_eq_true,List.all_eq_true]
 constructor
 ·intro h x hx
  obtain⟨j,hj,rfl⟩:=Jb hx
  have:=h j (YF.mpr hj)
  simpa[Yp,hj]using this
 ·intro h j hj
  have hj':=YF.mp hj
  have:=h _ (YR hj')
  simpa[Yp,hj']using this
theorem ZkD {prog:Program}{w:World}{A:Around}{bs:List Bool}{its:List Value} (r:Vals (bs.map V.bl) its):TruthOf prog w A (λi v=>its.toArray[i]?=some v) (λi=>bs.getD i false):=by
 intro i v s Q E hv hq
 have hv':its[i]?=some v:=by simpa using hv
 have hl:=r.length
 have hi:i<bs.length:=by
  have:=(Yw.mp hv').1
  rw[Yl]at hl;omega
 obtain⟨u,hu,ru⟩:=r.get (i:=i) (x:=V.bl bs[i]) (by rw[YH,Yh hi];rfl)
 rw[hv']at hu
 cases hu
 cases ru
 refine wpAny_truthy_bool ?_
 simpa[Yp,hi]using hq
theorem Zo9 {K:Frag} (hK:X.K=K) (hc:X.calm=true):Zb4 X (.builtin "all") (rAll K):=by
 subst hK
 intro pins s σ H xs us Q I r h
 obtain⟨p,bs,rfl,hp,q⟩:=h
 obtain⟨u,rfl,ru⟩:=r.one
 cases(show u=Value.ref p from ru)
 obtain⟨its,r',pl,hz⟩:=I.list hp
 have hl:=r'.length
 refine call_all_walk (wpAny_pyIter_list pl.isList ?_)
 have hne:p≠s.heap.objs.size:=by obtain⟨o,e,_⟩:=pl.isList;exact Yo (Yj e)
 refine⟨s.heap.objs.size,_,_,_,_,_,λi=>bs.getD i false,rfl,Walks.list (A:=X.A.in1) (show X.A.in1.handled=none from I.ok.hd hc) _ p hne its.toArray,⟨⟨_,Yv _ rfl,rfl,rfl⟩,pl.isList.push _⟩,ZkD r',λh' tk kp=>?_⟩
 have e1:its.toArray.size=bs.length:=by rw[Yr];rw[Yl]at hl;omega
 rw[e1,all_ix]
 exact⟨.bl _,H,I.kept (t':=tk) λb o e=>kp b o (by simp;exact Yo (Yj e)) (Yi _ e),rfl,q⟩
noncomputable def rIxQ (K:Frag):R2:=λx y H Q=>∃p xs i v,x=.ref p/\y=.int i/\(SqL K H p xs\/SqT K H p xs)/\atI xs i=some v/\Q v H
theorem ZiE {K:Frag} (hK:X.K=K):IxR X (rIxQ K):=by
 subst hK
 intro value slice pins s σ H x y v u Q I rx ry h hs
 refine(Zz.or Za6) (value:=value) (slice:=slice) pins s σ H x y v u Q I rx ry ?_ hs
 obtain⟨p,xs,i,v,rfl,rfl,hq,ha,q⟩:=h
 rcases hq with hq|hq
 ·exact .inl ⟨p,xs,i,v,rfl,rfl,hq,ha,q⟩
 ·exact .inr ⟨p,xs,i,v,rfl,rfl,hq,ha,q⟩
theorem bt_all:bootBuiltins "all"=some (.builtin "all"):=by decide +kernel
end
noncomputable def nth (ns:List Int) (i:Nat):Int:=ns.getD i 0
theorem ZN {ns:List Int}{i:Nat} (h:i<ns.length):atI (ns.map V.int) (i:Int)=some (V.int (nth ns i)):=by
 rw[ZhE rfl (by simpa using h)]
 simp[nth,Yp,h]
noncomputable def WI (N:Nat) (Pv:Nat->St->Hp->Prop) (m:Nat) (σ:St) (H:Hp):Prop:=∃i,m=N-i/\i<=N/\Pv i σ H
theorem WI.next {N:Nat}{Pv:Nat->St->Hp->Prop}{i:Nat}:∀σ' H',(i+1<=N/\Pv (i+1) σ' H')->∃m',m'<N-i/\WI N Pv m' σ' H':=fun σ' H' h=>⟨N-(i+1),by omega,i+1,rfl,h.1,h.2⟩
theorem ZmK {c:TT}{tb:TS}{D:Ends}{σ:St}{H:Hp} (N:Nat) (Pv:Nat->St->Hp->Prop) (h0:Pv 0 σ H)
  (hs:∀i σ H,i<=N->Pv i σ H->c σ H λb H1=>if b=true then ∃Nx:St->Hp->Prop,(∀σ' H',Nx σ' H'->∃m',m'<N-i/\WI N Pv m' σ' H')/\tb {D with nx:=Nx,ct:=Nx,bk:=D.nx} σ H1 else D.nx σ H1):ZlD c tb D σ H:=by
 refine⟨WI N Pv,⟨N,0,rfl,Yt _,h0⟩,?_⟩
 rintro m σ H ⟨i,rfl,hi,p⟩
 exact hs i σ H hi p
theorem Zg.seqT {K:Frag}{H H':Hp}{a:Addr}{xs:List V} (e:Zg H H') (h:SqT K H a xs):SqT K H' a xs:=by
 rcases h with(h|⟨o,h⟩)|h
 ·exact .inl (.inl (e _ _ h))
 ·exact .inl (.inr ⟨o,e _ _ h⟩)
 ·exact .inr h
theorem Zg.q {K:Frag}{H H':Hp}{a:Addr}{xs:List V} (e:Zg H H') (h:SqL K H a xs\/SqT K H a xs):SqL K H' a xs\/SqT K H' a xs:=h.imp e.seq e.seqT
theorem Exc.trans {p:Addr}{H H1 H2:Hp} (a:Exc p H H1) (b:Exc p H1 H2):Exc p H H2:=λc o n z=>b c o n (a c o n z)
theorem Exc.free {p q:Addr}{H H':Hp} (e:Exc p H H') (n:q≠p) (h:H' q=none):H q=none:=by
 cases z:H q with
 |none=>rfl
 |some o=>rw[e q o n z]at h;cases h
theorem Exc.ZjO {p q:Addr}{H H':Hp}{o:HO} (e:Exc p H H') (h:H q=none):Exc p H (L2.upd H' q o):=λb u n z=>by
 rw[Zj (Zv z h)];exact e b u n z
theorem Exc.same {p:Addr}{H H1 H2:Hp} (a:Exc p H H1) (s:Zg H1 H2):Exc p H H2:=a.trans s.Zbv
noncomputable def CA (n:Nat) (Pv:Nat->List V->Hp->Prop) (i m:Nat) (acc:List V) (H:Hp):Prop:=m=n-i/\i<=n/\acc.length<=i/\Pv i acc H
theorem CA.take {n:Nat}{Pv:Nat->List V->Hp->Prop}{i:Nat}{acc:List V}{v:V}{H:Hp} (hi:i<n) (hl:acc.length<=i) (h:Pv (i+1) (acc++[v]) H):∃m',m'<n-i/\CA n Pv (i+1) m' (acc++[v]) H:=⟨n-(i+1),by omega,rfl,hi,by simp;omega,h⟩
theorem Zf2 {J:It}{n:Nat}{H1:Hp}{g:TG}{tt:TT}{te:TE}{σ0:St}{Q:VK} (Pv:Nat->List V->Hp->Prop) (hn:n<sizeLine) (h0:Pv 0 [] H1) (hgo:∀i acc H,Pv i acc H->i<n->J.go i H) (hstop:∀acc H,Pv n acc H->J.stop n H)
  (hb:∀i x acc H H',i<n->acc.length<=i->Pv i acc H->J.yld i H x H'->g x σ0 H' fun σ2 H2=>tt σ2 H2 λb H3=>if b=true then te σ2 H3 λv H4=>∃m',m'<n-i/\CA n Pv (i+1) m' (acc++[v]) H4 else ∃m',m'<n-i/\CA n Pv (i+1) m' acc H3)
  (hk:∀l acc H',Pv n acc H'->acc.length<=n->H' l=none->Q (.ref l) (upd H' l (.lst acc))):Zkz J g tt te σ0 Q H1:=by
 refine⟨CA n Pv,⟨n,rfl,Yt _,Yf _,h0⟩,?_⟩
 rintro i m acc H ⟨rfl,hi,hl,p⟩
 by_cases h:i<n
 ·exact .inr ⟨hgo i acc H p h,by omega,λx H' y=>hb i x acc H H' h hl p y⟩
 ·have e:i=n:=by omega
  subst e
  exact .inl ⟨hstop acc H p,by omega,λq hq=>hk q acc H p hl hq⟩
section
variable {X:Cx}
noncomputable def ZjP:V->List V->Hp->VK->Prop:=λx vs H Q=>∃l xs i y,x=.ref l/\vs=[.int i,y]/\H l=some (.lst xs)/\0<=i/\i<2 ^ 62/\xs.length<sizeLine/\Q .non (upd H l (.lst (xs.take i.toNat++y::xs.drop i.toNat)))
theorem Vals.Zpa:∀{xs:List V}{us:List Value} (k:Nat),Vals xs us->Vals (xs.take k) (us.take k)
 |_,_,0,_=>by simp;exact .nil
 |_,_,_+1,.nil=>.nil
 |_,_,k+1,.cons r h=>.cons r (Vals.Zpa k h)
theorem Vals.dropN:∀{xs:List V}{us:List Value} (k:Nat),Vals xs us->Vals (xs.drop k) (us.drop k)
 |_,_,0,h=>by simpa using h
 |_,_,_+1,.nil=>.nil
 |_,_,k+1,.cons _ h=>Vals.dropN k h
theorem Zni:MtM X "list.insert" ZjP:=by
 intro pins s σ H x vs v us Q I rx rv h
 obtain⟨l,xs,i,y,rfl,rfl,hH,h1,h2,hz,q⟩:=h
 cases rx
 obtain⟨u,u2,rfl,ru,ru2⟩:=rv.two
 obtain⟨t,rfl⟩:=ru
 obtain⟨z,its,n,r,hl,e⟩:=I.Zly hH
 have hf:¬ (!Builtin.List.listFitsIndex i)=true:=by
  unfold Builtin.List.listFitsIndex
  have a1:decide (-(2 ^ 63:Int)<=i)=true:=YC (by omega)
  have a2:decide (i<(2 ^ 63:Int))=true:=YC (by omega)
  rw[a1,a2];decide
 refine call_meets F.slot_list_insert ⟨_,e,rfl⟩ F.entry_list_insert (F.args_list_insert_3 _ _ _) (AutoListH.list_insert_list_int_val_1 l its.toArray n i t u2 hf (by rw[Yr];omega)) ⟨e,?_⟩
 refine⟨.non,_,I.lset (its':=its.take i.toNat++u2::its.drop i.toNat) (ys:=xs.take i.toNat++y::xs.drop i.toNat) hH e ?_ ((r.Zpa _).append (.cons ru2 (r.dropN _))) ?_,rfl,q⟩
 ·show((its.toArray.extract 0 (if i<0 then (i+((its.toArray.size:Nat):Int)).toNat else min i.toNat its.toArray.size)).push u2++its.toArray.extract (if i<0 then (i+((its.toArray.size:Nat):Int)).toNat else min i.toNat its.toArray.size))=_
  rw[Yb (by omega)]
  have e1:its.take (min i.toNat its.length)=its.take i.toNat:=by
   by_cases hh:i.toNat<=its.length
   ·rw[Nat.min_eq_left hh]
   ·rw[Nat.min_eq_right (by omega),List.take_of_length_le (by omega),List.take_of_length_le (by omega)]
  have e2:its.drop (min i.toNat its.length)=its.drop i.toNat:=by
   by_cases hh:i.toNat<=its.length
   ·rw[Nat.min_eq_left hh]
   ·rw[Nat.min_eq_right (by omega),List.drop_of_length_le (by omega),List.drop_of_length_le (by omega)]
  apply Array.ext'
  simp[e1,e2]
  exact List.take_of_length_le (by rw[Y9];omega)
 ·rw[YL,YM,YY,Y9];omega
noncomputable def ZlE (K:Frag):V->List V->Hp->VK->Prop:=λx vs H Q=>∃(l:Addr) (ns:List Int) (k:Int),x=.ref l/\vs=[.int k]/\SqL K H l (ns.map V.int)/\ns.length<=100000/\k∈ns/\Q (.int (ns.idxOf k:Nat)) H
theorem Zpb {K:Frag} (hK:X.K=K):MtM X "list.index" (ZlE K):=by
 subst hK
 intro pins s σ H x vs v us Q I rx rv h
 obtain⟨l,ns,k,rfl,rfl,hH,hz,hk,q⟩:=h
 cases rx
 obtain⟨u,rfl,ru⟩:=rv.one
 obtain⟨t,rfl⟩:=ru
 obtain⟨its,r,pl,_⟩:=I.list hH
 have hi:IntsAre its ns:=intsAre_of r
 have hlen:=r.length
 rw[Yl]at hlen
 obtain⟨⟨cls,dd,data,sl⟩,ho,hc,n,hd⟩:=pl.isList
 simp only at hc hd
 subst hc hd
 have hj:ns.idxOf k<ns.length:=List.idxOf_lt_length_iff.mpr hk
 refine call_meets F.slot_list_index ⟨_,ho,rfl⟩ F.entry_list_index (F.args_list_index_2 _ _)
  (SeqAt.list_indexAt l its.toArray n dd sl (.int k t) (isInt k) (ns.idxOf k) (by rw[Yr];omega) (by omega) ?_ ?_) ⟨ho,λy hy=>(eq_isInt k t hi y (by simpa using hy)).at _ _,⟨.int _,H,I.tok _,⟨_,rfl⟩,q⟩⟩
 ·show isInt k its[ns.idxOf k]=true
  rw[isInt_at k hi _ (by omega) hj]
  simpa using List.getElem_idxOf hj
 ·intro j hjs hlt
  show isInt k its[j]=false
  rw[isInt_at k hi j (by simpa using hjs) (by omega)]
  exact ne_of_lt_idxOf hlt _
end
noncomputable def ZD (H:Hp) (p:Addr):Prop:=∃x:Int,H p=some (.lst [.int x])/\0<=x
theorem ZD.ne {H:Hp}{p q:Addr} (P:ZD H p) (h:H q=none):q≠p:=by
 obtain⟨x,e,_⟩:=P
 exact(Zv e h).symm
theorem ZD.same {H H':Hp}{p:Addr} (P:ZD H p) (s:Zg H H'):ZD H' p:=by
 obtain⟨x,e,r⟩:=P
 exact⟨x,s _ _ e,r⟩
theorem ZD.upd {H:Hp}{p q:Addr}{o:HO} (P:ZD H p) (h:H q=none):ZD (L2.upd H q o) p:=P.same ((Zg.refl H).upd h)
theorem ZD.ZjO {H:Hp}{p q:Addr}{o:HO} (P:ZD H p) (h:q≠p):ZD (L2.upd H q o) p:=by
 obtain⟨x,e,r⟩:=P
 exact⟨x,by rw[Zj h.symm];exact e,r⟩
theorem cp60:Zlu 10 60:=by unfold Zlu;decide
theorem qm1:IntMulOk (10 ^ Int.toNat 60) (10 ^ Int.toNat 60):=ZjL (by decide +kernel) (by decide +kernel)
theorem qm2:IntMulOk (10 ^ Int.toNat 60*10 ^ Int.toNat 60) (10 ^ Int.toNat 60):=ZjL (by decide +kernel) (by decide +kernel)
theorem qm3:IntMulOk (10 ^ Int.toNat 60*10 ^ Int.toNat 60*10 ^ Int.toNat 60) (10 ^ Int.toNat 60):=ZjL (by decide +kernel) (by decide +kernel)
theorem qm4:(0:Int)<10 ^ Int.toNat 60*10 ^ Int.toNat 60*10 ^ Int.toNat 60*10 ^ Int.toNat 60:=by decide +kernel
end L2
namespace L2
noncomputable def ZaK (f:Nat->Int) (p q:Nat):Prop:=q<p/\f q<=f p/\∀r,q<r->r<p->f p<f r
noncomputable def Zav (f:Nat->Int) (n p r:Nat):Prop:=p<r/\r<n/\f r<f p/\∀s,p<s->s<r->f p<=f s
noncomputable def Zdk (f:Nat->Int) (p:Nat):Prop:=∀q,q<p->f p<f q
noncomputable def Zb6 (f:Nat->Int) (n p:Nat):Prop:=∀r,p<r->r<n->f p<=f r
noncomputable def ZJ (f:Nat->Int) (n p:Nat) (e:Int):Prop :=
 (Zdk f p/\Zb6 f n p/\e=-1)\/(∃q,ZaK f p q/\Zb6 f n p/\e=q)\/(∃r,Zdk f p/\Zav f n p r/\e=r) \/
 ∃q r,ZaK f p q/\Zav f n p r/\e=if f q<=f r then (r:Int)else q
theorem ZkE {P:Nat->Prop} [DecidablePred P] (i:Nat):∀d r,r+d=i->P r->∃t,r<=t/\t<=i/\P t/\∀s,t<s->s<=i->¬ P s:=by
 intro d
 induction d with
 |zero=>intro r e h;exact⟨r,Yf _,by omega,h,λs h1 h2=>by omega⟩
 |succ d ih =>
  intro r e h
  by_cases hx:∃t,r<t/\t<=i/\P t
  ·obtain⟨t,h1,h2,h3⟩:=hx
   -- step to r+1 by cases
   by_cases h4:P (r+1)
   ·obtain⟨u,u1,u2,u3,u4⟩:=ih (r+1) (by omega) h4
    exact⟨u,by omega,u2,u3,u4⟩
   ·-- go on from the next one
    have gen:∀k t,t+k=i->r<t->P t->∃u,r<=u/\u<=i/\P u/\∀s,u<s->s<=i->¬ P s:=by
     intro k
     induction k with
     |zero=>intro t e h1 h3;exact⟨t,by omega,by omega,h3,λs h1 h2=>by omega⟩
     |succ k ihk =>
      intro t e h1 h3
      by_cases hy:∃s,t<s/\s<=i/\P s
      ·-- the last one of the rest
       have key:∀m,m<=i->(∃s,t<s/\s<=m/\P s)->∃u,t<u/\u<=m/\P u/\∀s,u<s->s<=m->¬ P s:=by
        intro m
        induction m with
        |zero=>rintro _ ⟨s,h5,h6,_⟩;omega
        |succ m ihm =>
         rintro hm ⟨s,h5,h6,h7⟩
         by_cases hp:P (m+1)
         ·exact⟨m+1,by omega,Yf _,hp,λs h1 h2=>by omega⟩
         ·have hs:s<=m:=by
           rcases Nat.lt_or_ge m s with z|z
           ·have:s=m+1:=by omega
            rw[this]at h7;exact absurd h7 hp
           ·exact z
          obtain⟨u,u1,u2,u3,u4⟩:=ihm (by omega) ⟨s,h5,hs,h7⟩
          refine⟨u,u1,by omega,u3,λs' h1 h2=>?_⟩
          by_cases e:s'=m+1
          ·rw[e];exact hp
          ·exact u4 s' h1 (by omega)
       obtain⟨u,u1,u2,u3,u4⟩:=key i (Yf _) hy
       exact⟨u,by omega,u2,u3,u4⟩
      ·exact⟨t,by omega,by omega,h3,λs h1 h2 h5=>hy ⟨s,h1,h2,h5⟩⟩
    exact gen (i-t) t (by omega) h1 h3
  ·exact⟨r,Yf _,by omega,h,λs h1 h2 h3=>hx ⟨s,h1,h2,h3⟩⟩
theorem ZlF {P:Nat->Prop} [DecidablePred P] {n r:Nat} (hr:r<n) (h:P r):∃t,r<=t/\t<n/\P t/\∀s,t<s->s<n->¬ P s:=by
 obtain⟨t,h1,h2,h3,h4⟩:=ZkE (P:=P) (n-1) (n-1-r) r (by omega) h
 exact⟨t,h1,by omega,h3,λs a b=>h4 s a (by omega)⟩
noncomputable def Zpc (f:Nat->Int) (i:Nat) (sp:List Nat):Prop:=sp.Pairwise (· < ·)/\∀q,q∈sp↔q<i/\∀r,q<r->r<i->f q<=f r
theorem ZmL (f:Nat->Int) (p:Nat):Zdk f p\/∃q,ZaK f p q:=by
 by_cases h:∃q,q<p/\f q<=f p
 ·obtain⟨q,h1,h2⟩:=h
  obtain⟨t,_,t2,t3,t4⟩:=ZlF (P:=λq=>f q<=f p) h1 h2
  exact .inr ⟨t,t2,t3,λr a b=>by have:=t4 r a b;omega⟩
 ·exact .inl λq hq=>by
   have:¬ (f q<=f p):=λz=>h ⟨q,hq,z⟩
   omega
theorem Znj {f:Nat->Int}{i p q:Nat} (hp:p<i) (ho:∀r,p<r->r<i->f p<=f r) (h:ZaK f p q):(∀r,q<r->r<i->f q<=f r)/\∀s,q<s->s<p->¬ ∀r,s<r->r<i->f s<=f r:=by
 obtain⟨h1,h2,h3⟩:=h
 refine⟨λr a b=>?_,λs a b z=>?_⟩
 ·rcases Nat.lt_trichotomy r p with c|c|c
  ·have:=h3 r a c;omega
  ·rw[c];exact h2
  ·have:=ho r c b;omega
 ·have:=z p b hp
  have:=h3 s a b
  omega
theorem ZlG {f:Nat->Int}{i:Nat}{A B:List Nat} (hs:Zpc f i (A++B)) (hA:∀q∈A,f q<=f i) (hB:∀q∈B,f i<f q) :
  Zpc f (i+1) (A++[i])/\ZJ f (i+1) i (match A.getLast? with|some q=>(q:Int)|none=>-1)/\∀p e,p<i->ZJ f i p e->ZJ f (i+1) p (if B.head?=some p then (i:Int)else e):=by
 obtain⟨hso,hm⟩:=hs
 have hAB:=List.pairwise_append.mp hso
 have noNx:Zb6 f (i+1) i:=λr a b=>by omega
 refine⟨⟨?_,λq=>?_⟩,?_,λp e hp he=>?_⟩
 ·refine List.pairwise_append.mpr ⟨hAB.1,List.pairwise_singleton _ _,λa ha b hb=>?_⟩
  have:b=i:=by simpa using hb
  rw[this]
  exact((hm a).mp (YG _ ha)).1
 ·rw[Yy,Y0]
  constructor
  ·rintro(h|h)
   ·obtain⟨h1,h2⟩:=(hm q).mp (YG _ h)
    refine⟨by omega,λr a b=>?_⟩
    by_cases e:r=i
    ·rw[e];exact hA q h
    ·exact h2 r a (by omega)
   ·subst h;exact⟨by omega,λr a b=>by omega⟩
  ·rintro⟨h1,h2⟩
   by_cases e:q=i
   ·exact .inr e
   ·have hq:q∈A++B:=(hm q).mpr ⟨by omega,λr a b=>h2 r a (by omega)⟩
    rcases Yy.mp hq with h|h
    ·exact .inl h
    ·have:=hB q h
     have:=h2 i (by omega) (by omega)
     omega
 ·-- the elder of i
  rcases ZmL f i with h|⟨q,h⟩
  ·have hA0:A=[]:=by
    cases A with
    |nil=>rfl
    |cons a r =>
     have h1:=((hm a).mp (by simp)).1
     have:=hA a (by simp)
     have:=h a h1
     omega
   rw[hA0]
   exact .inl ⟨h,noNx,rfl⟩
  ·have ho:∀r,q<r->r<i->f q<=f r:=λr a b=>by have:=h.2.2 r a b;have:=h.2.1;omega
   have hqA:q∈A:=by
    rcases Yy.mp ((hm q).mpr ⟨h.1,ho⟩)with z|z
    ·exact z
    ·have:=hB q z;have:=h.2.1;omega
   have hlast:A.getLast?=some q:=by
    have hne:A≠[]:=λz=>by rw[z]at hqA;cases hqA
    rw[List.getLast?_eq_some_getLast hne]
    congr 1
    have hl:A.getLast hne∈A:=List.getLast_mem hne
    -- q<=last,and last is not past q
    by_cases e:A.getLast hne=q
    ·exact e
    ·exfalso
     have hlt:q<A.getLast hne:=by
      have hd:=List.dropLast_concat_getLast hne
      have hq2:q∈A.dropLast:=by
       rw[<-hd]at hqA
       rcases Yy.mp hqA with z|z
       ·exact z
       ·exact absurd (by simpa using z) (Ne.symm e)
      have hp2:=hAB.1
      rw[<-hd]at hp2
      exact(List.pairwise_append.mp hp2).2.2 q hq2 _ (by simp)
     have h1:=((hm (A.getLast hne)).mp (YG _ hl)).1
     have:=h.2.2 _ hlt h1
     have:=hA _ hl
     omega
   rw[hlast]
   exact .inr (.inl ⟨q,h,noNx,rfl⟩)
 ·-- the elder of an earlier place
  have nxt:∀r,Zav f i p r->Zav f (i+1) p r:=λr ⟨a,b,c,d⟩=>⟨a,by omega,c,d⟩
  by_cases hop:Zb6 f i p
  ·have hmem:p∈A++B:=(hm p).mpr ⟨hp,hop⟩
   by_cases hlt:f i<f p
   ·have hnx:Zav f (i+1) p i:=⟨hp,by omega,hlt,λs a b=>hop s a b⟩
    have hpB:p∈B:=by
     rcases Yy.mp hmem with z|z
     ·have:=hA p z;omega
     ·exact z
    obtain⟨b0,Br,rfl⟩:∃b0 Br,B=b0::Br:=by
     cases B with
     |nil=>cases hpB
     |cons b0 Br=>exact⟨b0,Br,rfl⟩
    have hhead:(b0::Br).head?=some b0:=rfl
    rw[hhead]
    rcases ZmL f p with hn|⟨q,hq⟩
    ·-- nothing ahead: p is the first of all
     have e0:b0=p:=by
      by_cases z:b0=p
      ·exact z
      ·exfalso
       have hpr:p∈Br:=by
        rcases Ym.mp hpB with y|y
        ·exact absurd y.symm z
        ·exact y
       have hlt2:b0<p:=(Y1.mp hAB.2.1).1 p hpr
       have:=((hm b0).mp (by simp)).2 p hlt2 hp
       have:=hn b0 hlt2
       omega
     rw[Yd (by rw[e0])]
     exact .inr (.inr (.inl ⟨i,hn,hnx,rfl⟩))
    ·obtain⟨hq1,hq2⟩:=Znj hp hop hq
     have hqm:q∈A++b0::Br:=(hm q).mpr ⟨Nat.lt_trans hq.1 hp,hq1⟩
     by_cases hqi:f q<=f i
     ·-- q is kept: p is the first of B
      have e0:b0=p:=by
       by_cases z:b0=p
       ·exact z
       ·exfalso
        have hpr:p∈Br:=by
         rcases Ym.mp hpB with y|y
         ·exact absurd y.symm z
         ·exact y
        have hlt2:b0<p:=(Y1.mp hAB.2.1).1 p hpr
        have hb0:=(hm b0).mp (by simp)
        have hqA:q∈A:=by
         rcases Yy.mp hqm with y|y
         ·exact y
         ·have:=hB q y;omega
        have hqb:q<b0:=hAB.2.2 q hqA b0 (by simp)
        exact hq2 b0 hqb hlt2 hb0.2
      rw[Yd (by rw[e0])]
      refine .inr (.inr (.inr ⟨q,i,hq,hnx,?_⟩))
      rw[Yd hqi]
     ·-- q goes,too: the elder stays
      have hqB:q∈b0::Br:=by
       rcases Yy.mp hqm with y|y
       ·exact absurd (hA q y) hqi
       ·exact y
      have hne:b0≠p:=by
       intro z
       subst z
       rcases Ym.mp hqB with y|y
       ·have:=hq.1;omega
       ·have:=(Y1.mp hAB.2.1).1 q y
        have:=hq.1;omega
      rw[Yb (by intro z;exact hne (YD z))]
      have ee:e=q:=by
       rcases he with⟨h1,_,_⟩|⟨q',h1,_,h3⟩|⟨r,h1,_,_⟩|⟨q',r,_,h2,_⟩
       ·have:=h1 q hq.1;have:=hq.2.1;omega
       ·have:q'=q:=by
         rcases Nat.lt_trichotomy q' q with y|y|y
         ·have:=h1.2.2 q y hq.1;have:=hq.2.1;omega
         ·exact y
         ·have:=hq.2.2 q' y h1.1;have:=h1.2.1;omega
        rw[h3,this]
       ·have:=h1 q hq.1;have:=hq.2.1;omega
       ·have:=hop r h2.1 h2.2.1;have:=h2.2.2.1;omega
      refine .inr (.inr (.inr ⟨q,i,hq,hnx,?_⟩))
      rw[Yb hqi,ee]
   ·-- still open: not of B
    have hnn:Zb6 f (i+1) p:=λr a b=>by
     by_cases z:r=i
     ·rw[z];omega
     ·exact hop r a (by omega)
    have hne:B.head?≠some p:=λz=>by
     have:p∈B:=List.mem_of_head? z
     have:=hB p this
     omega
    rw[Yb hne]
    rcases he with⟨h1,_,h3⟩|⟨q,h1,_,h3⟩|⟨r,_,h2,_⟩|⟨q,r,_,h2,_⟩
    ·exact .inl ⟨h1,hnn,h3⟩
    ·exact .inr (.inl ⟨q,h1,hnn,h3⟩)
    ·have:=hop r h2.1 h2.2.1;have:=h2.2.2.1;omega
    ·have:=hop r h2.1 h2.2.1;have:=h2.2.2.1;omega
  ·-- shut already
   have hne:B.head?≠some p:=λz=>hop ((hm p).mp (Yk _ (List.mem_of_head? z))).2
   rw[Yb hne]
   rcases he with⟨_,h2,_⟩|⟨q,_,h2,_⟩|⟨r,h1,h2,h3⟩|⟨q,r,h1,h2,h3⟩
   ·exact absurd h2 hop
   ·exact absurd h2 hop
   ·exact .inr (.inr (.inl ⟨r,h1,nxt r h2,h3⟩))
   ·exact .inr (.inr (.inr ⟨q,r,h1,nxt r h2,h3⟩))
end L2
namespace L2
open PySem PySem.Spec PyProof.Rows PySem.W
theorem ZhF {α β:Type}{f g:α->Option β}:∀{l:List α},(∀x∈l,f x=g x)->l.filterMap f=l.filterMap g
 |[],_=>rfl
 |x::r,h=>by rw[List.filterMap_cons,List.filterMap_cons,h x (Yx ..),ZhF λy hy=>h y (Yz _ hy)]
theorem Znk (its:List Value) (k:Nat) (hk:k<=its.length) (start:Nat):(its.zipIdx start).filterMap (λxk=>if (decide (((start+k:Nat):Int)<=(xk.2:Int))&&decide ((xk.2:Int)<((start+its.length:Nat):Int))&&(((xk.2:Int)-((start+k:Nat):Int)) % 1==0))=true then none else some xk.1)=its.take k:=by
 induction its generalizing k start with
 |nil=>simp
 |cons x r ih =>
  rw[List.zipIdx_cons,List.filterMap_cons]
  cases k with
  |zero =>
   have h1:(decide (((start+0:Nat):Int)<=(start:Int))&&decide ((start:Int)<((start+(x::r).length:Nat):Int))&&(((start:Int)-((start+0:Nat):Int)) % 1==0))=true:=by
    simp;omega
   simp only[h1,if_true]
   have:=ih 0 (by omega) (start+1)
   rw[List.take_zero]at this⊢
   rw[<-this]
   refine ZhF λxk hxk=>?_
   have hm:=List.mem_zipIdx hxk
   have e1:(decide (((start+0:Nat):Int)<=(xk.2:Int)))=(decide (((start+1+0:Nat):Int)<=(xk.2:Int))):=by
    rw[decide_eq_decide];omega
   have e2:((start+(x::r).length:Nat):Int)=((start+1+r.length:Nat):Int):=by simp;omega
   have e3:(((xk.2:Int)-((start+0:Nat):Int)) % 1==0)=(((xk.2:Int)-((start+1+0:Nat):Int)) % 1==0):=by simp[Int.emod_one]
   rw[e1,e2,e3]
  |succ k =>
   have h1:(decide (((start+(k+1):Nat):Int)<=(start:Int))&&decide ((start:Int)<((start+(x::r).length:Nat):Int))&&(((start:Int)-((start+(k+1):Nat):Int)) % 1==0))=false:=by
    have:decide (((start+(k+1):Nat):Int)<=(start:Int))=false:=YJ (by omega)
    rw[this];rfl
   simp only[h1,Bool.false_eq_true,if_false]
   rw[List.take_succ_cons]
   congr 1
   have:=ih k (by simpa using hk) (start+1)
   rw[<-this]
   refine ZhF λxk hxk=>?_
   have e1:((start+(k+1):Nat):Int)=((start+1+k:Nat):Int):=by omega
   have e2:((start+(x::r).length:Nat):Int)=((start+1+r.length:Nat):Int):=by simp;omega
   rw[e1,e2]
section
variable {X:Cx}{e st:Expr}{te ts:TE}{pos pos1 p2:Pos}
noncomputable def Zpd (te ts:TE):TS:=λD σ H=>te σ H λx H1=>ts σ H1 λz H2=>∃(l:Addr) (xs:List V) (k:Nat),x=.ref l/\z=.int k/\H2 l=some (.lst xs)/\k<=xs.length/\D.nx σ (upd H2 l (.lst (xs.take k)))
theorem ZlH (he:PE X e te) (hs:PE X st ts):PS X (.Delete [.Subscript e (.Slice (some st) none none p2) pos1] pos) (Zpd te ts):=by
 intro pins s σ H D I h
 refine wpAny_Delete (wpAny_deleteEach_cons ?_)
 show wpAny _ _ (eval e X.env >>= λov=>holding [ov] (eval (.Slice (some st) none none p2) X.env) >>= λiv=>(do standAt pos1;holding [ov,iv] (delItem ov iv);release [ov,iv] [])) _ _ _
 refine Ya (thn (he pins s σ H _ I h) λv s1 ⟨x,H1,I1,r1,q1⟩=>?_)
 refine Ya (wpAny_holding ?_)
 refine wpAny_Slice ?_
 rw[evalPart_some]
 refine thn (hs pins s1 σ H1 _ I1 q1) λvs s2 ⟨z,H2,I2,r2,l,xs,k,e1,e2,hx,hk,q⟩=>?_
 subst e1 e2
 obtain⟨tk,rfl⟩:=r2
 cases r1
 rw[evalPart_none]
 refine Yc ?_
 refine Yc ?_
 have I4:Inv X pins σ H2 {s2 with heap:=s2.heap.push {cls:=.type "slice",data:=.fields #[.int k tk,.none,.none]}}:=I2.kept (t':=s2.toks) λb ob q=>Yi _ q
 have hsl:({s2 with heap:=s2.heap.push {cls:=.type "slice",data:=.fields #[.int k tk,.none,.none]}}:Shared).heap.get? s2.heap.objs.size=some {cls:=.type "slice",data:=.fields #[.int k tk,.none,.none]}:=Yv _ rfl
 obtain⟨z,its,n,r,hlen,hob⟩:=I4.Zly hx
 generalize ({s2 with heap:=s2.heap.push {cls:=.type "slice",data:=.fields #[.int k tk,.none,.none]}}:Shared)=s4 at I4 hsl hob⊢
 have hT:s4.TypeIs (.ref l) "list":=⟨_,hob,rfl⟩
 have hTs:s4.TypeIs (.ref s2.heap.objs.size) "slice":=⟨_,hsl,rfl⟩
 refine Ya (wpAny_standAt (Ya (wpAny_holding ?_)))
 refine wpAny_delItem_slot hT (by decide) F.slot_list_delitem (wpAny_call_entry F.slot_list_delitem hT F.entry_list_delitem ?_ (F.args_list_delitem_2 _ _))
 show wpAny _ _ (Builtin.List.listSubscript? (.ref s2.heap.objs.size) >>= _) _ _ s4
 refine Ya ?_;unfold Builtin.List.listSubscript?;refine Ya (wpAny_specialOf hTs slice_no_index ?_)
 simp only[Option.isNone_none,if_true];refine Yc ?_
 show wpAny _ _ (typeOf (.ref s2.heap.objs.size) >>= _) _ _ s4
 refine Ya (wpAny_typeOf hTs ?_);rw[Yb (by decide),listSliceParts_eq]
 refine Ya (Ya (wpAny_field hsl rfl (x:=.none) rfl (Ya (wpAny_listPart (k:=none) .none ?_))));rw[Yb (show ¬ ((rawPart none==rawInt 0)=true)from YB)]
 refine Ya (wpAny_field hsl rfl (x:=.int k tk) rfl (Ya (wpAny_listPart (.int (k:Int) tk) ?_)))
 refine Ya (wpAny_field hsl rfl (x:=.none) rfl (Ya (wpAny_listPart (k:=none) .none (Yc ?_))))
 refine Ya (m:=Builtin.List.listItems (.ref l)) ?_;unfold Builtin.List.listItems
 refine Ya (wpAny_seqItems hob rfl (Yc ?_));refine Ya (wpAny_of_eq (sliceIndices_raw (some (k:Int)) none none its.toArray.size (by simp)) (Ya (wpAny_rule ?_)))
 have hb:sliceBounds (some (k:Int)) none none its.toArray.size=((k:Int),((its.length:Nat):Int),1):=by
  unfold sliceBounds
  simp
  omega
 rw[hb]
 have hf:∀f:Array Value->Array Value,(∀ys:Array Value,f ys=(ys.toList.zipIdx.filterMap λxk=>if (decide ((k:Int)<=(xk.2:Int))&&decide ((xk.2:Int)<((its.length:Nat):Int))&&(((xk.2:Int)-(k:Int)) % 1==0))=true then none else some xk.1).toArray)->f its.toArray=(its.take k).toArray:=λf h=>by
  rw[h]
  congr 1
  have:=Znk its k (by omega) 0
  simpa using this
 refine Ya (m:=updateSeq l _) ?_
 refine wpAny_updateSeq (n:=n) hob rfl ?_ (by rw[Yr];omega) ?_
 ·refine Ya (wpAny_letGo (Yc ⟨_,rfl,?_⟩))
  refine wpAny_release (wpAny_deleteEach_nil ⟨σ,_,I4.lset hx hob (hf _ λys=>rfl) (r.Zpa k) ?_,q⟩)
  rw[YY];omega
 ·rw[Yr]
  refine Yn (List.length_filterMap_le _ _) ?_
  rw[List.length_zipIdx]
  show its.length<=sizeLine+1
  omega
end
theorem ZaK.unique {f:Nat->Int}{p q q':Nat} (h:ZaK f p q) (k:ZaK f p q'):q=q':=by
 rcases Nat.lt_trichotomy q q' with z|z|z
 ·have:=h.2.2 q' z k.1;have:=k.2.1;omega
 ·exact z
 ·have:=k.2.2 q z h.1;have:=h.2.1;omega
theorem Zav.unique {f:Nat->Int}{n p r r':Nat} (h:Zav f n p r) (k:Zav f n p r'):r=r':=by
 rcases Nat.lt_trichotomy r r' with z|z|z
 ·have:=k.2.2.2 r h.1 z;have:=h.2.2.1;omega
 ·exact z
 ·have:=h.2.2.2 r' k.1 z;have:=k.2.2.1;omega
theorem ZaK.no {f:Nat->Int}{p q:Nat} (h:ZaK f p q) (k:Zdk f p):False:=by have:=k q h.1;have:=h.2.1;omega
theorem Zav.no {f:Nat->Int}{n p r:Nat} (h:Zav f n p r) (k:Zb6 f n p):False:=by have:=k r h.1 h.2.1;have:=h.2.2.1;omega
theorem ZJ.unique {f:Nat->Int}{n p:Nat}{e e':Int} (h:ZJ f n p e) (k:ZJ f n p e'):e=e':=by
 rcases h with⟨h1,h2,h3⟩|⟨q,h1,h2,h3⟩|⟨r,h1,h2,h3⟩|⟨q,r,h1,h2,h3⟩ <;>
 rcases k with⟨k1,k2,k3⟩|⟨q',k1,k2,k3⟩|⟨r',k1,k2,k3⟩|⟨q',r',k1,k2,k3⟩
 ·rw[h3,k3]
 ·exact(k1.no h1).elim
 ·exact(k2.no h2).elim
 ·exact(k1.no h1).elim
 ·exact(h1.no k1).elim
 ·rw[h3,k3,h1.unique k1]
 ·exact(h1.no k1).elim
 ·exact(k2.no h2).elim
 ·exact(h2.no k2).elim
 ·exact(k1.no h1).elim
 ·rw[h3,k3,h2.unique k2]
 ·exact(k1.no h1).elim
 ·exact(h1.no k1).elim
 ·exact(h2.no k2).elim
 ·exact(h1.no k1).elim
 ·rw[h3,k3,h1.unique k1,h2.unique k2]
noncomputable def ZQ (ns:List Int) (es:List Int):Prop:=es.length=ns.length/\∀p,p<ns.length->ZJ (nth ns) ns.length p (es.getD p 0)
theorem ZQ.unique {ns es es':List Int} (h:ZQ ns es) (k:ZQ ns es'):es=es':=by
 refine List.ext_getElem (by rw[h.1,k.1]) λj h1 h2=>?_
 have hj:j<ns.length:=by rw[<-h.1];exact h1
 have:=(h.2 j hj).unique (k.2 j hj)
 simpa[Yp,h1,h2]using this
theorem ZkF {f:Nat->Int}{n p:Nat} (hp:p<n):ZJ f n p
  (match ((List.range p).filter λq=>decide (f q<=f p)).getLast?,((List.range (n-(p+1))).filter λj=>decide (f (p+1+j)<f p)).head? with
   |none,none=>-1
   |none,some j=>((p+1+j:Nat):Int)
   |some q,none=>q
   |some q,some j=>if f q<=f (p+1+j)then ((p+1+j:Nat):Int)else q):=by
 have hA:(((List.range p).filter λq=>decide (f q<=f p)).getLast?=none/\Zdk f p)\/∃q,((List.range p).filter λq=>decide (f q<=f p)).getLast?=some q/\ZaK f p q:=by
  induction p with
  |zero=>exact .inl ⟨rfl,λq hq=>by omega⟩
  |succ p _ =>
   generalize p+1=P
   have key:∀m,m<=P->(((List.range m).filter λq=>decide (f q<=f P)).getLast?=none/\∀q,q<m->f P<f q)\/∃q,((List.range m).filter λq=>decide (f q<=f P)).getLast?=some q/\q<m/\f q<=f P/\∀r,q<r->r<m->f P<f r:=by
    intro m
    induction m with
    |zero=>intro _;exact .inl ⟨rfl,λq hq=>by omega⟩
    |succ m ih =>
     intro hm
     rw[YT,List.filter_append]
     by_cases hle:f m<=f P
     ·refine .inr ⟨m,?_,by omega,hle,λr r1 r2=>by omega⟩
      simp[hle]
     ·have e:List.filter (λq=>decide (f q<=f P)) [m]=[]:=by simp[hle]
      rw[e,List.append_nil]
      rcases ih (by omega)with⟨i1,i2⟩|⟨q,i1,i2,i3,i4⟩
      ·refine .inl ⟨i1,λq hq=>?_⟩
       by_cases z:q=m
       ·rw[z];omega
       ·exact i2 q (by omega)
      ·refine .inr ⟨q,i1,by omega,i3,λr r1 r2=>?_⟩
       by_cases z:r=m
       ·rw[z];omega
       ·exact i4 r r1 (by omega)
   rcases key P (Yf _)with⟨i1,i2⟩|⟨q,i1,i2,i3,i4⟩
   ·exact .inl ⟨i1,i2⟩
   ·exact .inr ⟨q,i1,i2,i3,i4⟩
 have hB:(((List.range (n-(p+1))).filter λj=>decide (f (p+1+j)<f p)).head?=none/\Zb6 f n p)\/∃j,((List.range (n-(p+1))).filter λj=>decide (f (p+1+j)<f p)).head?=some j/\Zav f n p (p+1+j):=by
  have key:∀m,(((List.range m).filter λj=>decide (f (p+1+j)<f p)).head?=none/\∀j,j<m->f p<=f (p+1+j))\/∃j,((List.range m).filter λj=>decide (f (p+1+j)<f p)).head?=some j/\j<m/\f (p+1+j)<f p/\∀i,i<j->f p<=f (p+1+i):=by
   intro m
   induction m with
   |zero=>exact .inl ⟨rfl,λq hq=>by omega⟩
   |succ m ih =>
    rw[YT,List.filter_append]
    rcases ih with⟨i1,i2⟩|⟨j,i1,i2,i3,i4⟩
    ·have e0:List.filter (λj=>decide (f (p+1+j)<f p)) (List.range m)=[]:=List.head?_eq_none_iff.mp i1
     rw[e0,List.nil_append]
     by_cases hlt:f (p+1+m)<f p
     ·refine .inr ⟨m,by simp[hlt],by omega,hlt,λi hi=>i2 i hi⟩
     ·refine .inl ⟨by simp[hlt],λj hj=>?_⟩
      by_cases z:j=m
      ·rw[z];omega
      ·exact i2 j (by omega)
    ·refine .inr ⟨j,?_,by omega,i3,i4⟩
     rw[List.head?_append,i1];rfl
  rcases key (n-(p+1))with⟨i1,i2⟩|⟨j,i1,i2,i3,i4⟩
  ·refine .inl ⟨i1,λr r1 r2=>?_⟩
   have:=i2 (r-(p+1)) (by omega)
   have e:p+1+(r-(p+1))=r:=by omega
   rw[e]at this;exact this
  ·refine .inr ⟨j,i1,by omega,by omega,i3,λs s1 s2=>?_⟩
   have:=i4 (s-(p+1)) (by omega)
   have e:p+1+(s-(p+1))=s:=by omega
   rw[e]at this;exact this
 rcases hA with⟨a1,a2⟩|⟨q,a1,a2⟩<;>rcases hB with⟨b1,b2⟩|⟨j,b1,b2⟩<;>rw[a1,b1]
 ·exact .inl ⟨a2,b2,rfl⟩
 ·exact .inr (.inr (.inl ⟨_,a2,b2,rfl⟩))
 ·exact .inr (.inl ⟨_,a2,b2,rfl⟩)
 ·exact .inr (.inr (.inr ⟨_,_,a2,b2,rfl⟩))
theorem Zrt {c:TT}{tb:TS}{D:Ends}{σ:St}{H:Hp} (Pv:Nat->St->Hp->Prop) (m0:Nat) (h0:Pv m0 σ H)
  (hs:∀m σ H,Pv m σ H->c σ H λb H1=>if b=true then ∃Nx:St->Hp->Prop,(∀σ' H',Nx σ' H'->∃m',m'<m/\Pv m' σ' H')/\tb {D with nx:=Nx,ct:=Nx,bk:=D.nx} σ H1 else D.nx σ H1):ZlD c tb D σ H:=⟨Pv,⟨m0,h0⟩,hs⟩
end L2
namespace L2
noncomputable def Over (f:Nat->Int) (o p:Nat):Prop:=(o<p/\∀r,o<r->r<=p->f o<=f r)\/(p<o/\∀r,p<=r->r<o->f o<f r)
theorem Over.irrefl {f:Nat->Int}{p:Nat}:¬ Over f p p:=by rintro(⟨h,_⟩|⟨h,_⟩)<;>omega
theorem Over.ne {f:Nat->Int}{o p:Nat} (h:Over f o p):o≠p:=λz=>Over.irrefl (z▸h)
theorem Over.trans {f:Nat->Int}{o e p:Nat} (h:Over f o e) (k:Over f e p):Over f o p:=by
 rcases h with⟨h1,h2⟩|⟨h1,h2⟩<;>rcases k with⟨k1,k2⟩|⟨k1,k2⟩
 ·refine .inl ⟨by omega,λr r1 r2=>?_⟩
  by_cases z:r<=e
  ·exact h2 r r1 z
  ·have:=k2 r (by omega) r2;have:=h2 e h1 (Yf _);omega
 ·have he:=h2 e h1 (Yf _)
  rcases Nat.lt_trichotomy o p with z|z|z
  ·exact .inl ⟨z,λr r1 r2=>h2 r r1 (by omega)⟩
  ·have:=k2 p (Yf _) k1;subst z;omega
  ·exact .inr ⟨z,λr r1 r2=>by have:=k2 r r1 (by omega);omega⟩
 ·have he:=h2 e (Yf _) h1
  rcases Nat.lt_trichotomy o p with z|z|z
  ·exact .inl ⟨z,λr r1 r2=>by have:=k2 r (by omega) r2;omega⟩
  ·have:=k2 p k1 (Yf _);subst z;omega
  ·exact .inr ⟨z,λr r1 r2=>h2 r (by omega) r2⟩
 ·refine .inr ⟨by omega,λr r1 r2=>?_⟩
  by_cases z:r<e
  ·have:=k2 r r1 z;have:=h2 e (Yf _) h1;omega
  ·exact h2 r (by omega) r2
theorem Zb7 {f:Nat->Int}{n p:Nat}{e:Int} (hp:p<n) (h:ZJ f n p e):e=-1\/∃q:Nat,e=q/\q<n/\Over f q p:=by
 have pv:∀q,ZaK f p q->Over f q p:=λq h=>.inl ⟨h.1,λr r1 r2=>by
  by_cases z:r=p
  ·rw[z];exact h.2.1
  ·have:=h.2.2 r r1 (by omega);have:=h.2.1;omega⟩
 have nx:∀q,Zav f n p q->Over f q p:=λq h=>.inr ⟨h.1,λr r1 r2=>by
  by_cases z:r=p
  ·rw[z];exact h.2.2.1
  ·have:=h.2.2.2 r (by omega) r2;have:=h.2.2.1;omega⟩
 rcases h with⟨_,_,h⟩|⟨q,h1,_,h⟩|⟨r,_,h1,h⟩|⟨q,r,h1,h2,h⟩
 ·exact .inl h
 ·exact .inr ⟨q,h,by have:=h1.1;omega,pv q h1⟩
 ·exact .inr ⟨r,h,h1.2.1,nx r h1⟩
 ·by_cases z:f q<=f r
  ·rw[Yd z]at h;exact .inr ⟨r,h,h2.2.1,nx r h2⟩
  ·rw[Yb z]at h;exact .inr ⟨q,h,by have:=h1.1;omega,pv q h1⟩
theorem Zja {f:Nat->Int}{n p o:Nat}{e:Int} (hp:p<n) (ho:o<n) (h:ZJ f n p e) (hO:Over f o p):∃q:Nat,e=q/\q<n/\(o=q\/Over f o q):=by
 rcases hO with⟨o1,o2⟩|⟨o1,o2⟩
 ·have op:=o2 p o1 (Yf _)
  have pv:∀q,ZaK f p q->o=q\/(o<q/\Over f o q/\f o<=f q):=λq h=>by
   rcases Nat.lt_trichotomy o q with z|z|z
   ·have:=h.1;exact .inr ⟨z,.inl ⟨z,λr r1 r2=>o2 r r1 (by omega)⟩,o2 q z (by omega)⟩
   ·exact .inl z
   ·have:=h.2.2 o z o1;omega
  rcases h with⟨h1,_,h⟩|⟨q,h1,_,h⟩|⟨r,h1,_,h⟩|⟨q,r,h1,h2,h⟩
  ·have:=h1 o o1;omega
  ·refine⟨q,h,by have:=h1.1;omega,?_⟩
   rcases pv q h1 with z|z
   ·exact .inl z
   ·exact .inr z.2.1
  ·have:=h1 o o1;omega
  ·by_cases z:f q<=f r
   ·rw[Yd z]at h
    refine⟨r,h,h2.2.1,.inr (.inl ⟨by have:=h2.1;omega,λs s1 s2=>?_⟩)⟩
    by_cases sp:s<=p
    ·exact o2 s s1 sp
    ·by_cases sr:s=r
     ·rw[sr]
      rcases pv q h1 with y|y
      ·rw[y];exact z
      ·have:=y.2.2;omega
     ·have:=h2.2.2.2 s (by omega) (by omega);omega
   ·rw[Yb z]at h
    refine⟨q,h,by have:=h1.1;omega,?_⟩
    rcases pv q h1 with z|z
    ·exact .inl z
    ·exact .inr z.2.1
 ·have op:=o2 p (Yf _) o1
  have nx:∀r,Zav f n p r->o=r\/(r<o/\Over f o r/\f o<f r):=λr h=>by
   rcases Nat.lt_trichotomy o r with z|z|z
   ·have:=h.2.2.2 o o1 z;omega
   ·exact .inl z
   ·have:=h.1;exact .inr ⟨z,.inr ⟨z,λs s1 s2=>o2 s (by omega) s2⟩,o2 r (by omega) z⟩
  rcases h with⟨_,h1,h⟩|⟨q,_,h1,h⟩|⟨r,_,h1,h⟩|⟨q,r,h1,h2,h⟩
  ·have:=h1 o o1 ho;omega
  ·have:=h1 o o1 ho;omega
  ·refine⟨r,h,h1.2.1,?_⟩
   rcases nx r h1 with z|z
   ·exact .inl z
   ·exact .inr z.2.1
  ·by_cases z:f q<=f r
   ·rw[Yd z]at h
    refine⟨r,h,h2.2.1,?_⟩
    rcases nx r h2 with z|z
    ·exact .inl z
    ·exact .inr z.2.1
   ·rw[Yb z]at h
    refine⟨q,h,by have:=h1.1;omega,.inr (.inr ⟨by have:=h1.1;omega,λs s1 s2=>?_⟩)⟩
    by_cases sp:p<=s
    ·exact o2 s sp s2
    ·by_cases sq:s=q
     ·rw[sq]
      rcases nx r h2 with y|y
      ·rw[y];omega
      ·have:=y.2.2;omega
     ·have:=h1.2.2 s (by omega) (by omega);omega
theorem ZhG {f:Nat->Int}{n p o q:Nat} (hp:p<n) (ho:o<n) (h:ZJ f n p (q:Int)):Over f o p↔o=q\/Over f o q:=by
 refine⟨λk=>?_,λk=>?_⟩
 ·obtain⟨q',e,_,z⟩:=Zja hp ho h k
  have:q'=q:=by omega
  rw[this]at z;exact z
 ·rcases Zb7 hp h with z|⟨q',e,_,z⟩
  ·omega
  ·have:q'=q:=by omega
   rw[this]at z
   rcases k with k|k
   ·rw[k];exact z
   ·exact k.trans z
theorem Ze3 {f:Nat->Int}{n p o:Nat} (hp:p<n) (ho:o<n) (h:ZJ f n p (-1)):¬ Over f o p:=λk=>by
 obtain⟨q',e,_,z⟩:=Zja hp ho h k
 omega
theorem ZhH {P Q:Nat->Bool}:∀n,(∀o,o<n->P o=Q o)->(List.range n).countP P=(List.range n).countP Q
 |0,_=>rfl
 |n+1,h=>by
  rw[YT,List.countP_append,List.countP_append,ZhH n (λo ho=>h o (by omega))]
  simp[List.countP_cons,h n (by omega)]
theorem Zdl {P Q:Nat->Bool}{e:Nat}:∀n,e<n->(∀o,o<n->(P o=true↔o=e\/Q o=true))->Q e=false->(List.range n).countP P=(List.range n).countP Q+1
 |0,h,_,_=>by omega
 |n+1,h,hi,hq=>by
  rw[YT,List.countP_append,List.countP_append]
  by_cases z:e=n
  ·have e1:(List.range n).countP P=(List.range n).countP Q:=ZhH n λo ho=>by
    have:=hi o (by omega)
    cases hP:P o<;>cases hQ:Q o<;>simp[hP,hQ]at this<;>first|rfl|omega
   have hPn:P n=true:=(hi n (by omega)).mpr (.inl z.symm)
   rw[z]at hq
   rw[e1];simp[List.countP_cons,hPn,hq]
  ·rw[Zdl n (by omega) (λo ho=>hi o (by omega)) hq]
   have:=hi n (by omega)
   have hn:P n=Q n:=by
    cases hP:P n<;>cases hQ:Q n<;>simp[hP,hQ]at this<;>first|rfl|omega
   simp[List.countP_cons,hn];omega
theorem Zpe {P:Nat->Bool}{e n:Nat} (he:e<n) (h:P e=false):(List.range n).countP P<n:=by
 have h1:=Zdl (P:=λo=>decide (o=e)||P o) (Q:=P) n he (λo _=>by simp) h
 have h2:=List.countP_le_length (p:=λo=>decide (o=e)||P o) (l:=List.range n)
 rw[h1,Jc]at h2
 omega
noncomputable def Z7 (T:List Int):Nat->Int->List Nat
 |0,_=>[]
 |k+1,at_=>if 0<=at_/\at_<T.length then at_.toNat::Z7 T k (nth T at_.toNat)else []
open Classical in
noncomputable def dep (f:Nat->Int) (n p:Nat):Nat:=(List.range n).countP λo=>decide (Over f o p)
theorem ZlI {f:Nat->Int}{n p:Nat} (hp:p<n):dep f n p<n:=by
 classical
 exact Zpe hp (by simpa using Over.irrefl)
theorem ZgB {f:Nat->Int}{n p q:Nat} (hp:p<n) (h:ZJ f n p (q:Int)):dep f n p=dep f n q+1:=by
 classical
 have hq:q<n:=by
  rcases Zb7 hp h with z|⟨q',e,z,_⟩<;>omega
 exact Zdl n hq (λo ho=>by simpa using ZhG hp ho h) (by simpa using Over.irrefl)
theorem Zru {f:Nat->Int}{n p:Nat} (hp:p<n) (h:ZJ f n p (-1)):dep f n p=0:=by
 classical
 unfold dep
 rw[List.countP_eq_zero]
 intro o ho
 simpa using Ze3 hp (by simpa using ho) h
theorem ZhI {P Q:Nat->Bool}:∀n,(∀o,o<n->P o=true->Q o=true)->(List.range n).countP P<=(List.range n).countP Q
 |0,_=>Yf _
 |n+1,h=>by
  rw[YT,List.countP_append,List.countP_append]
  have:=ZhI n (λo ho=>h o (by omega))
  have hn:=h n (by omega)
  cases hP:P n<;>cases hQ:Q n<;>simp[List.countP_cons,hP,hQ]at hn⊢<;>omega
theorem Zpf {f:Nat->Int}{n p q:Nat} (hp:p<n) (hq:q<n) (h:Over f q p):dep f n q<dep f n p:=by
 classical
 have h1:=Zdl (P:=λo=>decide (o=q)||decide (Over f o q)) (Q:=λo=>decide (Over f o q)) (e:=q) n hq (λo _=>by simp) (by simpa using Over.irrefl)
 have h2:=ZhI (P:=λo=>decide (o=q)||decide (Over f o q)) (Q:=λo=>decide (Over f o p)) n (λo _ ho=>by
  simp at ho⊢
  rcases ho with z|z
  ·rw[z];exact h
  ·exact z.trans h)
 rw[h1]at h2
 exact h2
theorem Zf3 {ns T:List Int} (hT:ZQ ns T):∀k p,p<ns.length->dep (nth ns) ns.length p<=k->(∀o,o∈Z7 T k (nth T p)↔o<ns.length/\Over (nth ns) o p)/\(Z7 T k (nth T p)).length=dep (nth ns) ns.length p
 |k,p,hp,hk=>by
  have hE:ZJ (nth ns) ns.length p (nth T p):=hT.2 p hp
  rcases Zb7 hp hE with z|⟨q,e,hq,hO⟩
  ·have e0:Z7 T k (nth T p)=[]:=by
    cases k with
    |zero=>rfl
    |succ k=>rw[Z7,Yb (by omega)]
   rw[e0]
   rw[z]at hE
   exact⟨λo=>⟨λh=>by simp at h,λh=>absurd h.2 (Ze3 hp h.1 hE)⟩,by rw[Zru hp hE];rfl⟩
  ·rw[e]at hE
   have hd:=ZgB hp hE
   obtain⟨k',rfl⟩:∃k',k=k'+1:=⟨k-1,by omega⟩
   have ih:=Zf3 hT k' q hq (by omega)
   have eT:((q:Nat):Int).toNat=q:=by omega
   rw[Z7,e,Yd ⟨by omega,by rw[hT.1];omega⟩,eT]
   refine⟨λo=>?_,by simp[ih.2,hd]⟩
   rw[Ym,ih.1 o]
   refine⟨λh=>?_,λh=>?_⟩
   ·rcases h with h|h
    ·rw[h];exact⟨hq,hO⟩
    ·exact⟨h.1,h.2.trans hO⟩
   ·rcases(ZhG hp h.1 hE).mp h.2 with z|z
    ·exact .inl z
    ·exact .inr ⟨h.1,z⟩
noncomputable def Zfr (T:List Int):List Int:=(List.range T.length).map λp=>((Z7 T T.length (nth T p)).length:Int)
theorem Zf4 (T:List Int):(Zfr T).length=T.length:=by simp[Zfr]
theorem ZkG {T:List Int}{p:Nat} (h:p<T.length):nth (Zfr T) p=(Z7 T T.length (nth T p)).length:=by
 simp[nth,Zfr,Yp,h]
theorem Znl {ns T:List Int} (hT:ZQ ns T):ZQ (Zfr T) T:=by
 have eL:T.length=ns.length:=hT.1
 have hd:∀p,p<ns.length->nth (Zfr T) p=(dep (nth ns) ns.length p:Int):=λp hp=>by
  rw[ZkG (by omega),eL,(Zf3 hT ns.length p hp (YW (ZlI hp))).2]
 refine⟨(Zf4 T).symm,λp hp=>?_⟩
 rw[Zf4,eL]at hp⊢
 have lt:∀q p,q<ns.length->p<ns.length->Over (nth ns) q p->nth (Zfr T) q<nth (Zfr T) p:=λq p hq hp h=>by
  rw[hd q hq,hd p hp]
  have:=Zpf hp hq h;omega
 generalize nth (Zfr T)=g at lt
 clear hd
 have pv:∀q,ZaK (nth ns) p q->ZaK g p q:=λq h=>by
  refine⟨h.1,Int.le_of_lt (lt q p (by have:=h.1;omega) hp (.inl ⟨h.1,λr r1 r2=>?_⟩)),λr r1 r2=>lt p r hp (by omega) (.inr ⟨r2,λs s1 s2=>h.2.2 s (by omega) s2⟩)⟩
  by_cases z:r=p
  ·rw[z];exact h.2.1
  ·have:=h.2.2 r r1 (by omega);have:=h.2.1;omega
 have nx:∀r,Zav (nth ns) ns.length p r->Zav g ns.length p r:=λq h=>by
  refine⟨h.1,h.2.1,lt q p h.2.1 hp (.inr ⟨h.1,λr r1 r2=>?_⟩),λs s1 s2=>Int.le_of_lt (lt p s hp (by have:=h.2.1;omega) (.inl ⟨s1,λr r1 r2=>h.2.2.2 r r1 (by omega)⟩))⟩
  by_cases z:r=p
  ·rw[z];exact h.2.2.1
  ·have:=h.2.2.2 r (by omega) r2;have:=h.2.2.1;omega
 have np:Zdk (nth ns) p->Zdk g p:=λh q hq=>lt p q hp (by omega) (.inr ⟨hq,λr r1 r2=>h r r2⟩)
 have nn:Zb6 (nth ns) ns.length p->Zb6 g ns.length p:=λh r r1 r2=>Int.le_of_lt (lt p r hp r2 (.inl ⟨r1,λs s1 s2=>h s s1 (by omega)⟩))
 have hE:ZJ (nth ns) ns.length p (T.getD p 0):=hT.2 p hp
 rcases hE with⟨h1,h2,h⟩|⟨q,h1,h2,h⟩|⟨r,h1,h2,h⟩|⟨q,r,h1,h2,h⟩
 ·exact .inl ⟨np h1,nn h2,h⟩
 ·exact .inr (.inl ⟨q,pv q h1,nn h2,h⟩)
 ·exact .inr (.inr (.inl ⟨r,np h1,nx r h2,h⟩))
 ·refine .inr (.inr (.inr ⟨q,r,pv q h1,nx r h2,?_⟩))
  rw[h]
  have hq:q<ns.length:=by have:=h1.1;omega
  by_cases z:nth ns q<=nth ns r
  ·have:=lt q r hq h2.2.1 (.inl ⟨by have:=h1.1;have:=h2.1;omega,λs s1 s2=>by
    by_cases y:s=r
    ·rw[y];exact z
    ·by_cases y2:s=p
     ·rw[y2];exact h1.2.1
     ·have:=h1.2.1
      by_cases y3:s<p
      ·have:=h1.2.2 s s1 y3;omega
      ·have:=h2.2.2.2 s (by omega) (by omega);omega⟩)
   rw[Yd z,Yd (by omega)]
  ·have:=lt r q h2.2.1 hq (.inr ⟨by have:=h1.1;have:=h2.1;omega,λs s1 s2=>by
    have:=h1.2.1;have:=h2.2.2.1
    by_cases y:s=q
    ·rw[y];omega
    ·by_cases y2:s=p
     ·rw[y2];omega
     ·by_cases y3:s<p
      ·have:=h1.2.2 s (by omega) y3;omega
      ·have:=h2.2.2.2 s (by omega) (by omega);omega⟩)
   rw[Yb z,Yb (by omega)]
theorem Znm (T:List Int):(∃ns,ZQ ns T)↔ZQ (Zfr T) T:=⟨λ⟨_,h⟩=>Znl h,λh=>⟨_,h⟩⟩
end L2
namespace L2
open PySem PySem.Spec PyProof.Rows PySem.W
noncomputable def Zhk (es:List Int) (A B:List Nat) (i:Nat):List Int:=match A.getLast? with
 |some q=>(match B.head? with|some b=>es.set b i|none=>es).set i (q:Int)
 |none=>match B.head? with|some b=>es.set b i|none=>es
noncomputable def ZC (l:List Nat):List V:=l.map λq=>V.int (q:Nat)
theorem Zf5 (l:List Int) (a p:Nat) (v:Int) (h:p<l.length):(l.set a v).getD p 0=if a=p then v else l.getD p 0:=by
 rw[Yp,Yp]
 by_cases e:a=p
 ·subst e;rw[Yd rfl,List.getElem?_set_self h];rfl
 ·rw[Yb e,List.getElem?_set_ne e]
theorem Zpg (es:List Int) (A B:List Nat) (i:Nat):(Zhk es A B i).length=es.length:=by
 unfold Zhk
 cases A.getLast?<;>cases B.head?<;>simp
theorem ZmM (es:List Int) (A B:List Nat) (i p:Nat) (hp:p<es.length) (hb:∀b,B.head?=some b->b≠i):(Zhk es A B i).getD p 0=if p=i then (match A.getLast? with|some q=>(q:Int)|none=>es.getD i 0)else if B.head?=some p then (i:Int)else es.getD p 0:=by
 unfold Zhk
 cases hA:A.getLast? with
 |none =>
  cases hB:B.head? with
  |none =>
   by_cases e:p=i
   ·rw[Yd e,e]
   ·rw[Yb e,Yb (by simp)]
  |some b =>
   show(es.set b i).getD p 0=_
   rw[Zf5 _ _ _ _ hp]
   by_cases e:p=i
   ·rw[Yd e,Yb (by rw[e];exact hb b hB),e]
   ·rw[Yb e]
    by_cases e2:b=p
    ·rw[Yd e2,Yd (by rw[e2])]
    ·rw[Yb e2,Yb (by intro z;exact e2 (YD z))]
 |some q =>
  cases hB:B.head? with
  |none =>
   show(es.set i q).getD p 0=_
   rw[Zf5 _ _ _ _ hp]
   by_cases e:p=i
   ·rw[Yd e,Yd e.symm]
   ·rw[Yb e,Yb (λz=>e z.symm),Yb (by simp)]
  |some b =>
   show((es.set b i).set i q).getD p 0=_
   rw[Zf5 _ _ _ _ (by simpa using hp),Zf5 _ _ _ _ hp]
   by_cases e:p=i
   ·rw[Yd e,Yd e.symm]
   ·rw[Yb e,Yb (λz=>e z.symm)]
    by_cases e2:b=p
    ·rw[Yd e2,Yd (by rw[e2])]
    ·rw[Yb e2,Yb (by intro z;exact e2 (YD z))]
theorem Zph:∀(l:List Nat) (i lo:Nat),l.Pairwise (· < ·)->(∀q∈l,lo<=q/\q<i)->l.length+lo<=i\/l=[]
 |[],_,_,_,_=>.inr rfl
 |q::r,i,lo,h,hq=>by
  have h1:=hq q (by simp)
  have hr:=Y1.mp h
  rcases Zph r i (q+1) hr.2 (λx hx=>⟨hr.1 x hx,(hq x (by simp[hx])).2⟩)with z|z
  ·left;simp;omega
  ·left;rw[z];simp;omega
theorem ZR (l:List Nat):(ZC l).length=l.length:=by simp[ZC]
theorem Zc1 (a b:List Nat):ZC (a++b)=ZC a++ZC b:=by simp[ZC]
theorem Zf6 {l:List Nat}{j q:Nat} (h:l[j]?=some q):atI (ZC l) (j:Int)=some (V.int (q:Nat)):=by
 have hj:=(Yw.mp h).1
 have e:=(Yw.mp h).2
 rw[ZhE rfl (by rw[ZR];exact hj)]
 simp[ZC,e]
theorem Zdm {n j:Nat} (h:j<n):ixN n (j:Int)=some j:=by
 unfold ixN
 rw[Yd (by omega),Yd (by omega)];simp
noncomputable def Zar (T:List Int) (p:Nat):List Int:=(Z7 T T.length (nth T p)).map λq=>((q:Nat):Int)
noncomputable def ZI (T:List Int):Prop:=T.length<=40/\∃ns,ZQ ns T
theorem Zer (T:List Int):∀k a,(Z7 T k a).length<=k
 |0,_=>by simp[Z7]
 |k+1,a=>by
  rw[Z7]
  split
  ·have:=Zer T k (nth T a.toNat);simp;omega
  ·simp
noncomputable def ZaI (T:List Int):Nat->Int->Int
 |0,a=>a
 |j+1,a=>if 0<=a/\a<T.length then ZaI T j (nth T a.toNat)else a
theorem Zjb (T:List Int):∀j a,0<=ZaI T j a->ZaI T j a<T.length->(Z7 T j a).length=j->Z7 T (j+1) a=Z7 T j a++[(ZaI T j a).toNat]/\ZaI T (j+1) a=nth T (ZaI T j a).toNat
 |0,a,h0,h1,_=>by
  have h0':0<=a:=h0
  have h1':a<T.length:=h1
  constructor
  ·simp[Z7,ZaI,h0',h1']
  ·simp[ZaI,h0',h1']
 |j+1,a,h0,h1,hl=>by
  rw[Z7]at hl
  by_cases z:0<=a/\a<T.length
  ·rw[Yd z]at hl
   have e1:ZaI T (j+1) a=ZaI T j (nth T a.toNat):=by rw[ZaI,Yd z]
   rw[e1]at h0 h1
   have ih:=Zjb T j (nth T a.toNat) h0 h1 (by simpa using hl)
   constructor
   ·rw[Z7,Yd z,ih.1,Z7.eq_def T (j+1) a]
    simp only[Yd z,e1];simp
   ·rw[ZaI,Yd z,ih.2,e1]
  ·rw[Yb z]at hl;simp at hl
theorem Zjc (T:List Int):∀j k a,j<=k->(Z7 T j a).length=j->¬ (0<=ZaI T j a/\ZaI T j a<T.length)->Z7 T k a=Z7 T j a
 |0,k,a,_,_,h=>by
  have h':¬ (0<=a/\a<T.length):=h
  cases k with
  |zero=>rfl
  |succ k=>rw[show Z7 T 0 a=[]from rfl,Z7,Yb h']
 |j+1,k,a,hk,hl,h=>by
  rw[Z7]at hl
  by_cases z:0<=a/\a<T.length
  ·rw[Yd z]at hl
   rw[ZaI,Yd z]at h
   obtain⟨k',rfl⟩:∃k',k=k'+1:=⟨k-1,by omega⟩
   rw[Z7,Yd z,Zjc T j k' _ (by omega) (by simpa using hl) h,Z7,Yd z]
  ·rw[Yb z]at hl;simp at hl
section
variable {X:Cx}
theorem Zpi {K:Frag} (hK:X.K=K):OpR X (compareOp .In) (rIn K false):=hK▸Zm8
theorem Znn {K:Frag} (hK:X.K=K):OpR X (compareOp .NotIn) (rIn K true):=hK▸Zjz
end
theorem Zjd (xs:List Int):(xs.map V.int).all flatV=true:=by
 induction xs with
 |nil=>rfl
 |cons x r ih=>rw[YO,List.all_cons,ih];rfl
theorem ZmN (x:Int) (xs:List Int):inV (.int x) (xs.map V.int)=decide (x∈xs):=by
 induction xs with
 |nil=>rfl
 |cons y r ih =>
  have:inV (.int x) ((y::r).map V.int)=(decide (y=x)||inV (.int x) (r.map V.int)):=rfl
  rw[this,ih]
  by_cases z:y=x
  ·simp[z]
  ·have:¬ x=y:=λh=>z h.symm
   simp[z,this]
theorem ZaL {a b:TS}{D:Ends}{σ:St}{H:Hp} (Mid:St->Hp->Prop) (h1:∀R:St->Hp->Prop,(∀σ' H',Mid σ' H'->R σ' H')->a {D with nx:=R} σ H) (h2:∀σ' H',Mid σ' H'->b D σ' H'):tSeq a b D σ H:=h1 _ h2
theorem cut_to (xs:List V) (j:Nat):Zcy xs none (some (j:Int))=xs.take j:=by
 have h:¬ ((j:Int)<0):=by omega
 unfold Zcy HT.sIx
 simp only[Yb h,List.drop_zero,Nat.sub_zero]
 rw[List.take_eq_take_iff]
 omega
theorem Zno (xs:List V) (j:Nat):Zcy xs (some (j:Int)) none=xs.drop j:=by
 have h:¬ ((j:Int)<0):=by omega
 unfold Zcy HT.sIx
 simp only[Yb h,Y6]
 by_cases z:j<=xs.length
 ·rw[Nat.min_eq_left z]
  exact List.take_of_length_le (by rw[Y9];omega)
 ·rw[Nat.min_eq_right (by omega),Nat.sub_self,List.take_zero,List.drop_eq_nil_of_le (show xs.length<=j by omega)]
end L2
namespace L2
open PySem PySem.Spec PyProof.Rows
structure CellsOf (cl:List (Str×Addr)) (n0:Nat) (cs:List (Str×Addr)) (h0 h:Heap) (done:List (Str×NameKind)):Prop where
 old:∀b o,h0.get? b=some o->h.get? b=some o
 sz:n0<=h.objs.size
 mem:∀p∈cs,p∈cl\/(n0<=p.2/\p.2<h.objs.size/\h.IsCell p.2 none)
 inj:∀p∈cs,∀q∈cs,n0<=p.2->p.2=q.2->p.1=q.1
 own:∀y∈done,y.2=.cell->∃c,cs.lookup y.1=some c/\n0<=c
 oth:∀x,(∀y∈done,y.2=.cell->y.1≠x)->cs.lookup x=cl.lookup x
theorem ZgC {M:Model}{A:Around}{E:Value->Shared->Prop}{cl:List (Str×Addr)}{n0:Nat}{h0:Heap} (hcl:∀p∈cl,p.2<n0):∀(names:List (Str×NameKind)) (cs:List (Str×Addr)) (done:List (Str×NameKind)) (s:Shared),CellsOf cl n0 cs h0 s.heap done ->
  wpAny M A (forIn names cs λ(x:Str×NameKind) (r:List (Str×Addr))=>(match x with
   |(name,kind)=>if (kind==NameKind.cell)=true then do
     let a <-alloc {cls:=.type "cell",data:=.cell none}
     pure (ForInStep.yield ((name,a)::r))
    else pure (ForInStep.yield r):Sem (ForInStep (List (Str×Addr))))) (λcs' s'=>∃h',s'={s with heap:=h'}/\CellsOf cl n0 cs' h0 h' (done++names)) E s
 |[],cs,done,s,I=>by
  rw[List.forIn_nil,List.append_nil]
  exact Yc ⟨s.heap,rfl,I⟩
 |(n,k)::r,cs,done,s,I=>by
  rw[List.forIn_cons]
  by_cases hk:k=.cell
  ·subst hk
   simp only[beq_self_eq_true,if_true]
   refine Ya (Ya (wpAny_alloc (Yc ?_)))
   have hget:(s.heap.push {cls:=.type "cell",data:=.cell none}).get? s.heap.objs.size=some {cls:=.type "cell",data:=.cell none}:=Yv _ rfl
   have I':CellsOf cl n0 ((n,s.heap.objs.size)::cs) h0 (s.heap.push {cls:=.type "cell",data:=.cell none}) (done++[(n,.cell)]):=by
    refine⟨λb o e=>Yi _ (I.old b o e),by rw[Heap.size_push];exact Nat.le_succ_of_le I.sz,λp hp=>?_,λp hp q hq hn e=>?_,λy hy hc=>?_,λx hx=>?_⟩
    ·rcases Ym.mp hp with z|z
     ·subst z
      exact .inr ⟨I.sz,by rw[Heap.size_push];exact Nat.lt_succ_self _,_,hget,rfl⟩
     ·rcases I.mem p z with w|⟨w1,w2,o,w3,w4⟩
      ·exact .inl w
      ·exact .inr ⟨w1,by rw[Heap.size_push];exact YN w2,o,Yi _ w3,w4⟩
    ·have lt:∀p∈cs,p.2<s.heap.objs.size:=λp hp=>by
      rcases I.mem p hp with w|w
      ·exact Ys (hcl p w) I.sz
      ·exact w.2.1
     rcases Ym.mp hp with z|z<;>rcases Ym.mp hq with z'|z'
     ·rw[z,z']
     ·subst z;exact absurd (show s.heap.objs.size<s.heap.objs.size from(show s.heap.objs.size=q.2 from e)▸lt q z') (YA _)
     ·subst z';exact absurd (show s.heap.objs.size<s.heap.objs.size from(show p.2=s.heap.objs.size from e)▸lt p z) (YA _)
     ·exact I.inj p z q z' hn e
    ·rcases Yy.mp hy with z|z
     ·obtain⟨c,e1,e2⟩:=I.own y z hc
      by_cases hx:y.1=n
      ·exact⟨s.heap.objs.size,by rw[hx];simp,I.sz⟩
      ·have hb:(y.1==n)=false:=by simpa using hx
       exact⟨c,by simp only[List.lookup_cons,hb];exact e1,e2⟩
     ·have:y=(n,.cell):=by simpa using z
      subst this
      exact⟨s.heap.objs.size,by simp,I.sz⟩
    ·have hxn:n≠x:=hx (n,.cell) (by simp) rfl
     have hb:(x==n)=false:=by simpa using hxn.symm
     simp only[List.lookup_cons,hb]
     exact I.oth x λy hy=>hx y (YG _ hy)
   refine thn (ZgC hcl r _ _ {s with heap:=s.heap.push {cls:=.type "cell",data:=.cell none}} I') λcs' s' ⟨h',e1,e2⟩=>⟨h',e1,?_⟩
   rw[YI]at e2
   exact e2
  ·have e1:(k==NameKind.cell)=false:=by cases k<;>first|rfl|exact absurd rfl hk
   simp only[e1,Bool.false_eq_true,if_false]
   refine Ya (Yc ?_)
   have I':CellsOf cl n0 cs h0 s.heap (done++[(n,k)]):=by
    refine⟨I.old,I.sz,I.mem,I.inj,λy hy hc=>?_,λx hx=>I.oth x λy hy=>hx y (YG _ hy)⟩
    rcases Yy.mp hy with z|z
    ·exact I.own y z hc
    ·have:y=(n,k):=by simpa using z
     subst this
     exact absurd hc hk
   refine thn (ZgC hcl r _ _ s I') λcs' s' ⟨h',e1,e2⟩=>⟨h',e1,?_⟩
   rw[YI]at e2
   exact e2
theorem ZlJ {M:Model}{A:Around}{E:Value->Shared->Prop}{s:Shared}{scope:Scope}{globals:Addr}{cl:List (Str×Addr)}{qual:Str}{around:Env}{Q:Env->Shared->Prop} (hcl:∀p∈cl,p.2<s.heap.objs.size)
  (h:∀cs h',CellsOf cl (s.heap.objs.size+1) cs (s.heap.push {cls:=.type "dict",data:=.dict #[]}) h' scope.names->Q {scope:=scope,locals:=s.heap.objs.size,globals:=globals,cells:=cs,qual:=qual,func:=none,code:=around.code,frame:=around.frame,builtins:=around.builtins} {s with heap:=h'}) :
  wpAny M A (newFunctionEnv scope globals cl [] qual none .none (some around)) Q E s:=by
 unfold newFunctionEnv
 refine Ya (wpAny_alloc ?_)
 refine Ya (thn (ZgC (cl:=cl) (n0:=s.heap.objs.size+1) (h0:=s.heap.push {cls:=.type "dict",data:=.dict #[]}) (λp hp=>YN (hcl p hp)) scope.names cl [] {s with heap:=s.heap.push {cls:=.type "dict",data:=.dict #[]}} ⟨λb o e=>e,by rw[Heap.size_push];exact Yf _,λp hp=>.inl hp,λp hp q hq hn e=>absurd (hcl p hp) (Nat.not_lt_of_le (Nat.le_of_succ_le hn)),λy hy=>(nomatch hy),λx hx=>rfl⟩) λcs s' ⟨h',e1,e2⟩=>?_)
 subst e1
 rw[List.nil_append]at e2
 exact Ya (Yc (Yc (h cs h' e2)))
noncomputable def Za7 (around scope:Scope):Bool :=
 scope.kind==.function&&around.kind==.function&&scope.names.all λy=>match y.2 with
  |.local=>scope.names.lookup y.1==some .local
  |.cell=>scope.names.lookup y.1==some .cell
  |.free=>(scope.names.lookup y.1==some .free)&&(around.names.lookup y.1==some .cell||around.names.lookup y.1==some .free)
  |_=>true
theorem Zf7 {a s:Scope} (h:Za7 a s=true):s.kind=.function:=by
 simp only[Za7,Bool.and_eq_true,beq_iff_eq]at h;exact h.1.1
theorem Zfs {a s:Scope} (h:Za7 a s=true) {y:Str×NameKind} (hy:y∈s.names):(match y.2 with
  |.local=>s.names.lookup y.1==some .local
  |.cell=>s.names.lookup y.1==some .cell
  |.free=>(s.names.lookup y.1==some .free)&&(a.names.lookup y.1==some .cell||a.names.lookup y.1==some .free)
  |_=>true)=true:=by
 simp only[Za7,Bool.and_eq_true]at h
 exact List.all_eq_true.mp h.2 y hy
theorem ZiF {a s:Scope} (h:Za7 a s=true):∀y∈s.names,y.2=.local->s.names.lookup y.1=some .local:=λy hy e=>by
 have q:=Zfs h hy
 rw[e]at q
 exact beq_iff_eq.mp q
theorem ZjQ {a s:Scope} (h:Za7 a s=true):∀y∈s.names,y.2=.cell->s.names.lookup y.1=some .cell:=λy hy e=>by
 have q:=Zfs h hy
 rw[e]at q
 exact beq_iff_eq.mp q
theorem Zdn {a s:Scope} (h:Za7 a s=true):∀y∈s.names,y.2=.free->s.names.lookup y.1=some .free/\(a.names.lookup y.1=some .cell\/a.names.lookup y.1=some .free):=λy hy e=>by
 have q:=Zfs h hy
 rw[e]at q
 simp only[Bool.and_eq_true,Bool.or_eq_true,beq_iff_eq]at q
 exact q
noncomputable def Zaz (X:Cx) (Nc:List Str) (scope:Scope) (cs:List (Str×Addr)) (C:Addr) (s2:Shared) (H2:Hp) (fp:List Addr):Cx :=
 {Zap X Nc scope cs C s2 H2 fp with fn:=λx=>scope.names.lookup x==some .cell}
theorem ZkH {env:Env}{scope:Scope} (h:∀y∈scope.names,y.2=.free->∃c,env.cells.lookup y.1=some c) :
  ∃cl,closureFor scope env=pure cl/\(∀p∈cl,env.cells.lookup p.1=some p.2)/\(∀y∈scope.names,y.2=.free->∃c,cl.lookup y.1=some c/\env.cells.lookup y.1=some c):=by
 obtain⟨cl,e,h1,h2,h3⟩:=Zdj (env:=env) scope.names [] h
 have up:∀p∈cl,env.cells.lookup p.1=some p.2:=λp q=>by
  rcases h1 _ q with z|z
  ·cases z
  ·exact z
 refine⟨cl,?_,up,λy hy hf=>?_⟩
 ·unfold closureFor
  simp only[bind_pure_comp]at e⊢
  rw[e]
  exact pure_bind _ _
 ·obtain⟨c,hc⟩:=h3 y hy hf
  cases q:cl.lookup y.1 with
  |none=>exact absurd (List.lookup_eq_none_iff.mp q _ hc) (by simp)
  |some c'=>exact⟨c',rfl,up _ (PySem.mem_of_lookup q)⟩
section
variable {X:Cx}
theorem ZkI {pins:List (Addr×Obj)}{σ:St}{H2:Hp}{s2:Shared}{Nc:List Str}{js:List (Option Nat)}{scope:Scope}{cs:List (Str×Addr)}{fp:List Addr}{h1:Heap}{tk:Nat}{D C:Addr}{oD:Obj}{m:Str->Option Value}
  (I:Inv X pins σ H2 s2) (hok:Za7 X.env.scope scope=true) (htk:takesC X.N Nc scope js 0=true) (up:∀x c,cs.lookup x=some c->X.env.cells.lookup x=some c\/(C<c/\h1.IsCell c none)) (hinj:∀x y c,cs.lookup x=some c->cs.lookup y=some c->x=y) (hown:∀y∈scope.names,y.2=.cell->∃c,cs.lookup y.1=some c/\C<c) (hfr:∀y∈scope.names,y.2=.free->∃c,cs.lookup y.1=some c/\X.env.cells.lookup y.1=some c)
  (hfp:∀b∈fp,FpOk X pins H2 b) (hfl:∀b∈fp,b<s2.heap.objs.size) (hD:D=s2.heap.objs.size) (hC:C=s2.heap.objs.size+1) (old:∀b o,s2.heap.get? b=some o->h1.get? b=some o) (hns:h1.Ns C m) (hoD:h1.get? D=some oD) (hdD:∀v,oD.data≠.cell v) :
  Inv (Zaz X Nc scope cs C s2 H2 fp) [(D,oD)] (ZW js σ) H2 {s2 with heap:=h1,toks:=tk}:=by
 have leC:s2.heap.objs.size<=C:=by rw[hC];exact YS _
 have leD:s2.heap.objs.size<=D:=Y5 hD.symm
 have kf:∀x,((compEnvC scope cs C X.env).kindOf x=some .cell\/(compEnvC scope cs C X.env).kindOf x=some .free)->∃c,cs.lookup x=some c:=λx hx=>by
  have:∃k,(compEnvC scope cs C X.env).kindOf x=some k/\(k=.cell\/k=.free):=hx.elim (λq=>⟨_,q,.inl rfl⟩) λq=>⟨_,q,.inr rfl⟩
  obtain⟨k,e,hk⟩:=this
  obtain⟨k',h1,h2⟩:=Z1 (show(scope.names.map _).lookup x=some k from e)
  have hm:=lookup_mem h1
  have:k'=.free\/k'=.cell:=by
   rcases h2 with q|q
   ·subst q
    exact hk.symm
   ·exact .inl q.1
  rcases this with z|z
  ·subst z
   obtain⟨c,q,_⟩:=hfr _ hm rfl
   exact⟨c,q⟩
  ·subst z
   obtain⟨c,q,_⟩:=hown _ hm rfl
   exact⟨c,q⟩
 have nC:∀c x,X.env.cells.lookup x=some c->c<s2.heap.objs.size:=λc x e=>by
  obtain⟨v,q⟩:=I.cell x c e
  exact q.lt
 have noB:∀b,b∈fp->b∉frs X.stack:=λb hb q=>by
  rcases Ym.mp (I.Zef b q)with z|z
  ·exact(hfp b hb).2.1 z
  ·exact(hfp b hb).2.2.1 z
 have okX:(Zaz X Nc scope cs C s2 H2 fp).Ok:=by
  refine⟨I.ok.mod,(show scope.kind=.function from Zf7 hok),I.ok.glob,I.ok.blt,?_,λx y c e1 e2=>hinj x y c e1 e2,λx hx=>?_,(λx c e1 e2=>?_),I.ok.hd,I.ok.frames,.inl rfl,λb hb=>⟨?_,λx c e=>(up _ _ e).elim (λz=>(hfp b hb).2.2.2.2.1 x c z) λz=>Nat.ne_of_gt (Nat.lt_trans (Ys (hfl b hb) leC) z.1)⟩,I.bs,Yn I.ok.bsz I.sz,λb o e hb=>?_,λb hb=>noB b hb,I.stack,I.ZfR⟩
  ·show s2.heap.objs.size<=C;exact leC
  ·exact kf x hx
  ·have hm:=lookup_mem (beq_iff_eq.mp (show(scope.names.lookup x==some NameKind.cell)=true from e1))
   obtain⟨c',q1,q2⟩:=hown _ hm rfl
   have:c=c':=YD ((show cs.lookup x=some c from e2).symm.trans q1)
   rw[this]
   exact Yn leC (YW q2)
  ·exact Yo (Ys (hfl b hb) leC)
  ·rcases(hfp b hb).2.2.2.1 with q|q
   ·exact I.ok.noex b o e q
   ·exact absurd (Ys (Yj e) (Yn I.ok.bsz q)) (YA _)
 refine⟨okX,rfl,I.bare,Un.kept old,⟨m,hns,λi x v e1 e2 e3=>?_⟩,λx c e=>?_,I.hok.fresh leC,λx c e=>(up _ _ e).elim (λz=>I.freeC x c z) λz=>I.hok.fresh (Yn leC (YW z.1)),λp hp=>?_,I.hok.kept old,?_⟩
 ·have e2':(ZW js σ)[i]?=some (some v):=e2
  unfold ZW at e2'
  rw[YH]at e2'
  cases q:js[i]? with
  |none=>rw[q]at e2';cases e2'
  |some j0 =>
   cases j0 with
   |none=>rw[q]at e2';cases e2'
   |some j =>
    rw[q]at e2'
    simp only[Option.map_some,Option.some.injEq]at e2'
    have e4:σ[j]?=some (some v):=by
     cases z:σ[j]? with
     |none=>rw[z]at e2';cases e2'
     |some o=>rw[z]at e2';simp only[Option.join_some]at e2';rw[e2']
    obtain⟨y,y1,y2,y3⟩:=ZcY htk q
    rw[Nat.zero_add]at y1
    have:x=y:=YD ((show Nc[i]?=some x from e1).symm.trans y1)
    subst this
    have hm:=lookup_mem y3
    obtain⟨c,c1,c2⟩:=hfr _ hm rfl
    have hk:=(Zdn hok _ hm rfl).2
    obtain⟨m0,hn0,hl0⟩:=I.loc
    obtain⟨u,r,l⟩:=hl0 j x v y2 e4 (hk.elim (λz=>.inr (.inl z)) λz=>.inr (.inr z))
    refine⟨u,r,.inr ⟨?_,c,c1,?_⟩⟩
    ·rcases e3 with z|z|z
     ·obtain⟨k',w1,w2⟩:=Z1 (show(scope.names.map _).lookup x=some NameKind.local from z)
      rw[y3]at w1;cases w1
      rcases w2 with w|w
      ·cases w
      ·cases w.2
     ·exact .inl z
     ·exact .inr z
    ·rcases l with⟨lk,_⟩|⟨_,c',c3,c4⟩
     ·rcases hk with z|z
      ·rw[show X.env.kindOf x=some .cell from z]at lk;cases lk
      ·rw[show X.env.kindOf x=some .free from z]at lk;cases lk
     ·rw[c2]at c3;cases c3
      obtain⟨oc,w1,w2⟩:=c4
      exact⟨oc,old _ _ w1,w2⟩
 ·rcases up _ _ e with z|z
  ·obtain⟨v,oc,w1,w2⟩:=I.cell x c z
   exact⟨v,oc,old _ _ w1,w2⟩
  ·exact⟨_,z.2⟩
 ·have:p=(D,oD):=by
   have hp':p∈([]++[(D,oD)]:List (Addr×Obj)):=hp
   simpa using hp'
  subst this
  refine⟨hoD,I.hok.fresh leD,(by show D≠C;rw[hD,hC];exact Yo (Nat.lt_succ_self _)),λhb=>?_,hdD⟩
  have hb':D∈frs X.stack:=hb
  obtain⟨_,o,ho,_⟩:=I.stack.mem hb'
  exact absurd (Ys (Yj ho) leD) (YA _)
 ·have:=Zb5 htk
  show(ZW js σ).length=Nc.length
  unfold ZW;rw[Yl];omega
theorem Zje {pins:List (Addr×Obj)}{σ:St}{H:Hp}{s:Shared}{tg elt iter:Expr}{ifs:List Expr}{scope:Scope}{pos:Pos}{wi:TI}{g:TG}{tt:TT}{te:TE}{Nc:List Str}{js:List (Option Nat)}{use:Option (Value->Sem Unit)}{Q:VK}{QQ:Value->Shared->Prop}
  (hc:X.calm=true) (hok:Za7 X.env.scope scope=true) (htk:takesC X.N Nc scope js 0=true) (hi:PI X tg iter wi)
  (hg:∀cl C s2 H2 fp,PG (Zaz X Nc scope cl C s2 H2 fp) tg g) (ht:∀cl C s2 H2 fp,Zhj (Zaz X Nc scope cl C s2 H2 fp) ifs tt) (he:∀cl C s2 H2 fp,PE (Zaz X Nc scope cl C s2 H2 fp) elt te)
  (hs:∀x,foldedSetIterable iter X.env x=pure x) {L:List Nat} (ho:Zff g L) (hL:(L.all λk=>js[k]?==some none)=true) (I:Inv X pins σ H s) (h:Zmx wi g tt te js σ H Q)
  (fin:∀(D C:Addr) (H' H2:Hp) (s2 s':Shared) (xs:List V) (m:Str->Option Value),Inv X pins σ H2 s2->H' C=none->C=D+1->D=s2.heap.objs.size->s'.heap.Ns C m->(∀h',Heap.SameBut C s'.heap h'->Inv X pins σ (upd H' D (.lst xs)) {s' with heap:=h'})->Q (.ref D) (upd H' D (.lst xs)) ->
   compPost (model X.prog X.w) X.A X.xe use QQ (.ref D) C (.ok .next) s') :
  wpAny (model X.prog X.w) X.A (comprehension (.ListComp elt [⟨tg,iter,ifs,0⟩] scope pos) scope X.env (firstIterPos [⟨tg,iter,ifs,0⟩] pos) (newList []) false (eval iter X.env) use) QQ X.xe s:=by
 have hcells:∀y∈scope.names,y.2=.free->∃c,X.env.cells.lookup y.1=some c:=λy hy hf=>I.ok.has y.1 (Zdn hok y hy hf).2
 obtain⟨cl,hcl,upM,hfr0⟩:=ZkH hcells
 have hk:=Zf7 hok
 refine wpAny_comprehension_free (use:=use) rfl hs hcl hk (ZiF hok) (thn (hi pins s σ H _ I h) λv s1 h1=>thn h1 λitv s2 h2=>?_)
 obtain⟨it,fp,tn,J,H2,e,I2,T,st2,f2,W,⟨m0,w0⟩,turn⟩:=h2
 subst e
 have clt:∀p∈cl,p.2<s2.heap.objs.size:=λp hp=>by
  obtain⟨v,q⟩:=I2.cell p.1 p.2 (upM p hp)
  exact q.lt
 refine wpAny_newObj_type (ZlJ (λp hp=>?_) λcs h₁ CO=>?_)
 ·show p.2<(s2.heap.push _).objs.size
  rw[Heap.size_push];exact YN (clt p hp)
 dsimp only at CO⊢
 generalize hH2:s2.heap.push {cls:=.type "list",dict:=none,data:=.seq ([]:List Value).toArray}=HH at CO⊢
 have hC:HH.objs.size=s2.heap.objs.size+1:=by rw[<-hH2,Heap.size_push]
 have hcl':∀p∈cl,p.2<HH.objs.size:=λp hp=>by rw[hC];exact YN (clt p hp)
 have hns₁:h₁.Ns HH.objs.size (λ_=>none):=⟨_,#[],_,CO.old _ _ (Yv _ rfl),rfl,λe he=>absurd he (by simp),λn=>rfl⟩
 have up:∀x c,cs.lookup x=some c->X.env.cells.lookup x=some c\/(HH.objs.size<c/\h₁.IsCell c none):=λx c e=>by
  rcases CO.mem _ (PySem.mem_of_lookup e)with z|z
  ·exact .inl (upM _ z)
  ·exact .inr ⟨z.1,z.2.2⟩
 have hinj:∀x y c,cs.lookup x=some c->cs.lookup y=some c->x=y:=λx y c e1 e2=>by
  have m1:=PySem.mem_of_lookup e1
  have m2:=PySem.mem_of_lookup e2
  rcases CO.mem _ m1 with z|z
  ·rcases CO.mem _ m2 with z'|z'
   ·exact I2.ok.inj x y c (upM _ z) (upM _ z')
   ·exact absurd (hcl' _ z) (Nat.not_lt_of_le (Nat.le_of_succ_le z'.1))
  ·exact CO.inj _ m1 _ m2 z.1 rfl
 have hfr:∀y∈scope.names,y.2=.free->∃c,cs.lookup y.1=some c/\X.env.cells.lookup y.1=some c:=λy hy hf=>by
  obtain⟨c,q1,q2⟩:=hfr0 y hy hf
  refine⟨c,?_,q2⟩
  rw[CO.oth y.1 λy' hy' hc' z=>?_]
  ·exact q1
  ·have w1:=ZjQ hok y' hy' hc'
   have w2:=(Zdn hok y hy hf).1
   rw[z,w2]at w1;cases w1
 have hfl:∀b∈fp,b<s2.heap.objs.size:=λb hb=>by
  obtain⟨o,ho,_⟩:=T.obj 0 _ st2 b hb
  exact Yj ho
 have hDC:s2.heap.objs.size≠HH.objs.size:=by rw[hC];exact Yo (Nat.lt_succ_self _)
 have old:∀b o,s2.heap.get? b=some o->h₁.get? b=some o:=λb o e=>CO.old b o (Yi _ (hH2▸Yi _ e))
 have hacc:h₁.get? s2.heap.objs.size=some {cls:=.type "list",dict:=none,data:=.seq ([]:List Value).toArray}:=CO.old _ _ (Yi _ (hH2▸Yv _ rfl))
 have I4:=ZkI (Nc:=Nc) (js:=js) (tk:=s2.toks) I2 hok htk up hinj (λy hy hc=>CO.own y hy hc) hfr f2 hfl rfl hC old hns₁ hacc (by intro v z;cases z)
 have st4:tn 0 h₁:=T.keep _ _ _ st2 λb _ o e=>old b o e
 generalize hXc:Zaz X Nc scope cs HH.objs.size s2 H2 fp=Xc at I4
 have hXA:Xc.A=X.A:=by rw[<-hXc];rfl
 have hXe:Xc.env=compEnvC scope cs HH.objs.size X.env:=by rw[<-hXc];rfl
 have hXp:Xc.prog=X.prog:=by rw[<-hXc];rfl
 have hXw:Xc.w=X.w:=by rw[<-hXc];rfl
 have hXx:Xc.xe=λ_ _=>False:=by rw[<-hXc];rfl
 have hXk:Xc.K=X.K:=by rw[<-hXc];rfl
 have hXcalm:Xc.calm=true:=by rw[<-hXc];exact hc
 have fpok:∀{pl:List (Addr×Obj)}{H':Hp},(∀p∈pl,s2.heap.objs.size<=p.1)->(∀b∈fp,H' b=none)->∀b∈fp,FpOk Xc pl H' b:=λ{pl H'} hpl hn b hb=>by
  have k1:b≠HH.objs.size:=Yo (by rw[hC];exact YN (hfl b hb))
  have k2:b∉frs X.stack:=λq=>by
   rcases Ym.mp (I2.Zef b q)with z|z
   ·exact(f2 b hb).2.1 z
   ·exact(f2 b hb).2.2.1 z
  rw[<-hXc]
  refine⟨hn b hb,k1,k2,.inl hb,λx c e=>(up _ _ e).elim (λz=>(f2 b hb).2.2.2.2.1 x c z) λz=>Nat.ne_of_gt (Nat.lt_trans (by rw[hC];exact YN (hfl b hb)) z.1),λp hp=>?_⟩
  have hp':p∈pl:=by simpa[Zaz,Zap]using hp
  exact Nat.ne_of_gt (Ys (hfl b hb) (hpl p hp'))
 have gX:PG Xc tg g:=hXc▸hg cs HH.objs.size s2 H2 fp
 have tX:Zhj Xc ifs tt:=hXc▸ht cs HH.objs.size s2 H2 fp
 have eX:PE Xc elt te:=hXc▸he cs HH.objs.size s2 H2 fp
 have hs0:Xc.s₀=s2:=by rw[<-hXc];rfl
 have hh0:Xc.H₀=H2:=by rw[<-hXc];rfl
 have hfs:Xc.fs=frs X.stack:=by rw[<-hXc];rfl
 have hex:Xc.ex=fp:=by rw[<-hXc];rfl
 have loop:codeAny (model X.prog X.w) X.A (.compLoop (.ListComp elt [⟨tg,iter,ifs,0⟩] scope pos) 0 (.ref it) (.ref s2.heap.objs.size) (compEnvC scope cs HH.objs.size X.env)) (compPost (model X.prog X.w) X.A X.xe use QQ (.ref s2.heap.objs.size) HH.objs.size)
   {s2 with heap:=h₁,toks:=s2.toks}:=by
  refine Zeq (λn s'=>∃i acc its nn H',Inv Xc [(s2.heap.objs.size,{cls:=.type "list",dict:=none,data:=.seq (its:List Value).toArray nn})] (ZW js σ) H' s'/\Vals acc its/\acc.length<=sizeLine/\tn i s'.heap/\(∀b∈fp,H' b=none)/\W i n acc H') ?_ m0
   ⟨0,[],[],0,H2,I4,.nil,Yt _,st4,λb hb=>(f2 b hb).1,w0⟩
  rintro n s3 ⟨i,acc,its,nn,H3,I3,va,hlen,st3,fr3,w3⟩
  have pg:∀p∈([(s2.heap.objs.size,{cls:=.type "list",dict:=none,data:=.seq its.toArray nn})]:List (Addr×Obj)),s2.heap.objs.size<=p.1:=λp hp=>by
   simp only[Ym,List.not_mem_nil,or_false]at hp
   subst hp;exact Yf _
  rcases turn i n acc H3 w3 with⟨stop,hl,qn⟩|⟨go,hl,step⟩
  ·have q:=T.done Xc hXp hXw hXk hXcalm i _ s3 (ZW js σ) H3 (λ_ _=>False) I3 (fpok pg fr3) st3 stop
   rw[hXA]at q
   refine thn q λr s4 ⟨hr,I5⟩=>?_
   subst hr
   have hpin:=I5.pin _ (Yk _ (.head _))
   obtain⟨m5,hn5,_⟩:=I5.loc
   rw[hXe]at hn5
   refine fin _ _ H3 H2 s2 s4 acc m5 I2 (by have:=I5.free;rw[hXe]at this;exact this) hC rfl hn5 (λh' hsb=>?_) (qn _ hpin.2.1)
   have same:∀b o,b≠HH.objs.size->s4.heap.get? b=some o->h'.get? b=some o:=λb o hb e=>hsb.extBut b o hb e
   have un:=I5.base
   rw[hfs,hex,hh0,hs0]at un
   have lt:∀b o,s2.heap.get? b=some o->b<s2.heap.objs.size:=λb o e=>Yj e
   have neC:∀b o,s2.heap.get? b=some o->b≠HH.objs.size:=λb o e=>Yo (by rw[hC];exact YN (lt b o e))
   have neD:∀b o,s2.heap.get? b=some o->b≠s2.heap.objs.size:=λb o e=>Yo (lt b o e)
   have trkC:∀b o,H3 b=some o->b≠HH.objs.size:=λb o e z=>by
    have:=I5.free;rw[hXe]at this;rw[z,show H3 HH.objs.size=none from this]at e;cases e
   refine I2.Zmm (s':={s4 with heap:=h'}) (ch:=fp) (I5.os.trans (by rw[hs0])) ⟨λb o e n hb hx=>same _ _ (neC b o e) (un.keep b o e n hb hx),λb o e n hb hx=>?_,λb o e n hx=>by rw[Zj (neD b o e)];exact un.free b o e n hx,λb o e hx=>?_,λb xs e=>?_,λb o u e=>?_,λb ps e=>?_⟩ (λa o e=>?_) I5.bare λb hb=>⟨(f2 b hb).2.2.2.1,(f2 b hb).2.1,(f2 b hb).2.2.2.2.1,(f2 b hb).2.2.2.2.2⟩
   ·obtain⟨sl,z⟩:=un.slot b o e n hb hx
    exact⟨sl,same _ _ (neC b o e) z⟩
   ·obtain⟨o',z⟩:=un.there b o e hx
    exact⟨o',same _ _ (neC b o e) z⟩
   ·rw[Zj (Yo (I2.hok.lt e))];exact un.tups b xs e
   ·rw[Zj (Yo (I2.hok.lt e))];exact un.frzs b o u e
   ·obtain⟨more,z⟩:=un.tbls b ps e
    exact⟨more,by rw[Zj (Yo (I2.hok.lt e))];exact z⟩
   ·by_cases ha:a=s2.heap.objs.size
    ·subst ha
     rw[Zc]at e;cases e
     exact⟨hl,its,nn,va,same _ _ hDC hpin.1⟩
    ·rw[Zj ha]at e
     have q:=I5.hok a o e
     rw[hXp,hXw]at q
     refine q.ZfQ (λb u hb z=>same b u ?_ z) (λb z=>by rw[Zj];exact z;intro y;subst y;rw[hpin.2.1]at z;cases z) (λb xs z=>by rw[Zj];exact z;intro y;subst y;rw[hpin.2.1]at z;cases z) λb o u z=>by rw[Zj];exact z;intro y;subst y;rw[hpin.2.1]at z;cases z
     rcases hb with hb|hb
     ·subst hb;exact trkC _ _ e
     ·exact trkC _ _ hb
  ·have q:=T.item Xc hXp hXw hXk hXcalm i _ s3 (ZW js σ) H3 (λ_ _=>False) I3 (fpok pg fr3) st3 go
   rw[hXA]at q
   refine thn q λr s4 ⟨u,hr,h4⟩=>?_
   subst hr
   refine thn h4 λ_ s5 ⟨x,H5,I5,r5,y5,st5,fr5⟩=>?_
   have I5':=I5.pinned (fpok pg fr5) (T.obj _ _ st5)
   have again:∀{σ7:St}{H7:Hp}{s7:Shared}{acc7:List V}{its7:List Value}{n7:Nat}{m:Nat},Inv Xc ([(s2.heap.objs.size,{cls:=.type "list",dict:=none,data:=.seq its7.toArray n7})]++Z8 fp s5.heap) σ7 H7 s7->Vals acc7 its7->acc7.length<=sizeLine->W (i+1) m acc7 H7->σ7.length=(ZW js σ).length->(∀(k:Nat) v,(ZW js σ)[k]?=some (some v)->σ7[k]?=some (some v)) ->
     ∃i acc its nn H',Inv Xc [(s2.heap.objs.size,{cls:=.type "list",dict:=none,data:=.seq (its:List Value).toArray nn})] (ZW js σ) H' s7/\Vals acc its/\acc.length<=sizeLine/\tn i s7.heap/\(∀b∈fp,H' b=none)/\W i m acc H':=λ{σ7 H7 s7 acc7 its7 n7 m} I7 v7 l7 w7 hl7 hw7=>by
    refine⟨i+1,acc7,its7,n7,H7,(I7.weak hl7.symm hw7).Zbu,v7,l7,T.keep _ _ _ st5 λb hb o e=>(I7.pin (b,o) (Yk _ (Yk _ (Zas hb e)))).1,λb hb=>?_,w7⟩
    obtain⟨o,e,d⟩:=T.obj _ _ st5 b hb
    exact(I7.pin (b,o) (Yk _ (Yk _ (Zas hb e)))).2.1
   have keep:∀{σ6:St},Zby L (ZW js σ) σ6->σ6.length=(ZW js σ).length/\∀(k:Nat) v,(ZW js σ)[k]?=some (some v)->σ6[k]?=some (some v):=λ{σ6} hk=>⟨hk.1,λk v e=>by
    rw[hk.2 k]
    ·exact e
    ·intro z
     have q:=List.all_eq_true.mp hL k z
     simp only[beq_iff_eq]at q
     unfold ZW at e
     rw[YH,q]at e
     cases e⟩
   have q6:=gX _ s5 (ZW js σ) H5 x u _ I5' r5 (ho _ _ _ _ _ (fun σ' H' kk z=>And.intro kk z) (step x H5 y5))
   rw[hXe,hXA,hXp,hXw,hXx]at q6
   refine thn q6 λ_ s6 ⟨σ6,H6,I6,k6,q6⟩=>?_
   obtain⟨kl,kv⟩:=keep k6
   have q7:=tX _ s6 σ6 H6 _ I6 q6
   rw[hXe,hXA,hXp,hXw,hXx]at q7
   refine thn q7 λb s7 ⟨H7,I7,q7⟩=>?_
   cases b with
   |false =>
    obtain⟨m',hm,w7⟩:=q7
    exact⟨m',hm,again I7 va hlen w7 kl kv⟩
   |true =>
    have q8:=eX _ s7 σ6 H7 _ I7 q7
    rw[hXe,hXA,hXp,hXw,hXx]at q8
    refine thn q8 λy s8 ⟨v8,H8,I8,r8,m',hm,w8⟩=>?_
    have pinD:=I8.pin _ (Yk _ (YG _ (.head _)))
    have hnf:∀p∈Z8 fp s5.heap,p.1≠s2.heap.objs.size:=λp hp=>by
     obtain⟨z,_⟩:=ZeY hp
     exact Yo (hfl _ z)
    have va':=va.length
    refine call_meets F.slot_list_append ⟨_,pinD.1,rfl⟩ F.entry_list_append (F.args_list_append_2 _ _) (PySem.list_append s2.heap.objs.size its.toArray nn y (by rw[Yr];omega)) ⟨pinD.1,?_⟩
    have e9:=PySem.IsL.update pinD.1 (λa=>a.push y)
    have e9':its.toArray.push y=(its++[y]).toArray:=by simp
    dsimp only at e9
    rw[e9']at e9
    have I8':Inv Xc (Z8 fp s5.heap) σ6 H8 s8:=I8.ZU λp hp=>I8.pin p (Yk _ (Yk _ hp))
    have hXpn:Xc.pn=[]:=by rw[<-hXc];rfl
    have hXs:s2.heap.objs.size∉frs X.stack:=by rw[<-hfs];exact pinD.2.2.2.1
    have I9:=I8'.turned (t':=s8.toks) (it:=s2.heap.objs.size) (h':=s8.heap.update s2.heap.objs.size (Obj.mapSeq λa=>a.push y)) (λb o hb e=>(Heap.get?_update_other s8.heap _ (Ne.symm hb)).trans e) pinD.2.1 pinD.2.2.1
     (.inr (by rw[hs0];exact Yf _)) (λx c e=>by
      rw[hXe]at e
      intro z
      rcases up _ _ e with y|y
      ·obtain⟨v,q⟩:=I2.cell x c y
       exact absurd q.lt (by rw[z];exact YA _)
      ·have:=y.1
       rw[z,hC]at this
       exact absurd this (Nat.not_lt_of_le (YS _))) (λp hp=>by rw[hXpn,List.nil_append]at hp;exact hnf p hp)
    have I10:=I9.ZU (pins':=[(s2.heap.objs.size,{cls:=.type "list",dict:=none,data:=.seq (its++[y]).toArray _})]++Z8 fp s5.heap) λp hp=>by
     rcases Yy.mp hp with z|z
     ·simp only[Ym,List.not_mem_nil,or_false]at z
      subst z
      exact⟨e9,pinD.2.1,pinD.2.2.1,pinD.2.2.2.1,by intro v z;cases z⟩
     ·exact I9.pin p (Yk _ z)
    exact⟨m',hm,again I10 (va.append (.cons r8 .nil)) (by rw[YL,List.length_singleton];omega) w8 kl kv⟩
 exact codeAny_compStart_list loop (T.self _ 0 _ _ _ st4 loop)
theorem Zaj {tg elt iter:Expr}{ifs:List Expr}{scope:Scope}{pos:Pos}{wi:TI}{g:TG}{tt:TT}{te:TE} (Nc:List Str) (js:List (Option Nat)) {L:List Nat}
  (hc:X.calm=true) (hok:Za7 X.env.scope scope=true) (htk:takesC X.N Nc scope js 0=true) (hi:PI X tg iter wi)
  (hg:∀cl C s2 H2 fp,PG (Zaz X Nc scope cl C s2 H2 fp) tg g) (ht:∀cl C s2 H2 fp,Zhj (Zaz X Nc scope cl C s2 H2 fp) ifs tt) (he:∀cl C s2 H2 fp,PE (Zaz X Nc scope cl C s2 H2 fp) elt te)
  (ho:Zff g L) (hL:(L.all λk=>js[k]?==some none)=true:=by rfl) (hs:∀x,foldedSetIterable iter X.env x=pure x:=by intro _;rfl):PE X (.ListComp elt [⟨tg,iter,ifs,0⟩] scope pos) (Zmx wi g tt te js):=by
 intro pins s σ H Q I h
 rw[eval_ListComp]
 exact Zje (use:=none) hc hok htk hi hg ht he hs ho hL I h λD C H' H2 s2 s' xs m I2 hHC e1 e2 hn hI q=>⟨m,hn,λh' hsb=>⟨.ref D,_,hI h' hsb,rfl,q⟩⟩
theorem Zes {i:Nat}{x:Str}{pos' spos:Pos}{tg elt iter:Expr}{ifs:List Expr}{scope:Scope}{pos:Pos}{wi:TI}{g:TG}{tt:TT}{te:TE} (Nc:List Str) (js:List (Option Nat)) {L:List Nat}
  (hN:X.N.Nodup) (hxi:X.N[i]?=some x) (hx:Loc X.env.scope x)
  (hc:X.calm=true) (hok:Za7 X.env.scope scope=true) (htk:takesC X.N Nc scope js 0=true) (hi:PI X tg iter wi)
  (hg:∀cl C s2 H2 fp,PG (Zaz X Nc scope cl C s2 H2 fp) tg g) (ht:∀cl C s2 H2 fp,Zhj (Zaz X Nc scope cl C s2 H2 fp) ifs tt) (he:∀cl C s2 H2 fp,PE (Zaz X Nc scope cl C s2 H2 fp) elt te)
  (ho:Zff g L) (hL:(L.all λk=>js[k]?==some none)=true:=by rfl) (hs:∀x,foldedSetIterable iter X.env x=pure x:=by intro _;rfl)
  (hsw:swapsWith (.ListComp elt [⟨tg,iter,ifs,0⟩] scope pos) (some (.Name x pos')) spos.line X.env=pure true:=by rfl)
  (hf:X.fn x=true\/X.env.scope.names.lookup x=some .local:=by first|exact .inl rfl|exact .inr rfl|assumption) :
  PS X (.Assign [.Name x pos'] (.ListComp elt [⟨tg,iter,ifs,0⟩] scope pos) spos) (Zm1 (Zmx wi g tt te js) (Zfe i)):=by
 intro pins s σ H D I h
 rw[exec_Assign_Name_used _ _ _ _ hsw]
 refine Ya (wpAny_standAt (Ya ?_))
 show wpAny _ _ (comprehension _ _ _ _ _ _ _ _ >>= _) _ _ _
 refine Ya (thn (Q:=λ_ s'=>∃σ' H',Inv X pins σ' H' s'/\D.nx σ' H') (Zje (Q:=λv H1=>Zfe i v σ H1 D.nx) (use:=some (assign (.Name x pos') X.env)) hc hok htk hi hg ht he hs ho hL I h ?_) λ_ s' ⟨σ',H',I',q⟩=>Yc (Yc ⟨σ',H',I',q⟩))
 intro D' C H' H2 s2 s' xs m I2 hHC e1 e2 hn hI q
 obtain⟨oC,es,ep,hoC,hdC,hrest⟩:=id hn
 have leC:s2.heap.objs.size<=C:=by rw[e1,e2];exact YS _
 have ltC:s2.heap.objs.size<C:=by rw[e1,e2];exact Nat.lt_succ_self _
 have neDC:C≠D':=by rw[e2];exact Nat.ne_of_gt ltC
 have fresh:s2.heap.get? C=none:=by
  cases e:s2.heap.get? C with
  |none=>rfl
  |some o=>exact absurd (Ys (Yj e) leC) (YA _)
 have neL:C≠X.env.locals:=Nat.ne_of_gt (Ys I2.lt leC)
 have nfs:C∉X.fs:=I2.Zlq leC
 have ncl:∀x c,X.env.cells.lookup x=some c->c≠C:=λx c e z=>by
  obtain⟨v,q⟩:=I2.cell x c e
  exact absurd (Ys q.lt leC) (by rw[z];exact YA _)
 have npn:∀p∈X.pn++pins,p.1≠C:=λp hp z=>by
  have:=(I2.pin p hp).1
  rw[z,fresh]at this;cases this
 have hH:(upd H' D' (HO.lst xs)) C=none:=by rw[Zj neDC];exact hHC
 have I0:=hI s'.heap ZfX
 have I1:Inv X (pins++[(C,oC)]) σ (upd H' D' (.lst xs)) s':=I0.ZU λp hp=>by
  rcases Yy.mp hp with z|z
  ·exact I0.pin p (Yk _ z)
  ·simp only[Ym,List.not_mem_nil,or_false]at z
   subst z
   exact⟨hoC,hH,neL,nfs,λv z=>by rw[hdC]at z;cases z⟩
 show wpAny _ _ _ _ _ _
 refine thn (Zr (X:=X) (i:=i) hN hxi hx hf (pins++[(C,oC)]) s' σ _ (.ref D') (.ref D') _ I1 rfl q) λ_ s3 ⟨σ3,H3,I3,q3⟩=>?_
 have pC:=I3.pin (C,oC) (Yk _ (Yk _ (.head _)))
 refine⟨m,⟨oC,es,ep,pC.1,hdC,hrest⟩,λh' hsb=>⟨σ3,H3,?_,q3⟩⟩
 exact I3.Zbu.turned (t':=s3.toks) (it:=C) (λb o hb e=>hsb.extBut b o hb e) pC.2.1 neL (.inr (Yn I2.sz leC)) ncl npn
end
end L2
namespace L2
open PySem PySem.Spec PyProof.Rows PySem.W
noncomputable def CF (n:Nat) (P:Nat->Bool) (vals:Nat->V) (H1:Hp) (i m:Nat) (acc:List V) (H:Hp):Prop:=m=n-i/\i<=n/\acc=((List.range i).filter P).map vals/\Zg H1 H
theorem CF.take {n:Nat}{P:Nat->Bool}{vals:Nat->V}{H1 H:Hp}{i:Nat}{v:V} (hi:i<n) (hP:P i=true) (hv:v=vals i) (s:Zg H1 H):∃m',m'<n-i/\CF n P vals H1 (i+1) m' (((List.range i).filter P).map vals++[v]) H :=
 ⟨n-(i+1),by omega,rfl,hi,by rw[YT,List.filter_append,YX,hv];simp[hP],s⟩
theorem CF.skip {n:Nat}{P:Nat->Bool}{vals:Nat->V}{H1 H:Hp}{i:Nat} (hi:i<n) (hP:P i=false) (s:Zg H1 H):∃m',m'<n-i/\CF n P vals H1 (i+1) m' (((List.range i).filter P).map vals) H :=
 ⟨n-(i+1),by omega,rfl,hi,by rw[YT,List.filter_append,YX];simp[hP],s⟩
theorem Zc2 {J:It}{n:Nat}{H1:Hp}{g:TG}{tt:TT}{te:TE}{σ0:St}{Q:VK} (P:Nat->Bool) (vals:Nat->V) (hn:n<sizeLine) (hgo:∀i H,Zg H1 H->i<n->J.go i H) (hstop:∀H,Zg H1 H->J.stop n H)
  (hb:∀i x H H',i<n->Zg H1 H->J.yld i H x H'->g x σ0 H' fun σ2 H2=>tt σ2 H2 λb H3=>if b=true then te σ2 H3 λv H4=>∃m',m'<n-i/\CF n P vals H1 (i+1) m' (((List.range i).filter P).map vals++[v]) H4 else ∃m',m'<n-i/\CF n P vals H1 (i+1) m' (((List.range i).filter P).map vals) H3)
  (hk:∀l H',Zg H1 H'->H' l=none->Q (.ref l) (upd H' l (.lst (((List.range n).filter P).map vals)))) :
  Zkz J g tt te σ0 Q H1:=by
 refine⟨CF n P vals H1,⟨n,rfl,Yt _,rfl,Zg.refl _⟩,?_⟩
 rintro i m acc H ⟨rfl,hi,rfl,s⟩
 have hlen:(((List.range i).filter P).map vals).length<=n:=by
  rw[Yl]
  have:=Ja P (List.range i)
  rw[Jc]at this
  omega
 by_cases h:i<n
 ·exact .inr ⟨hgo i H s h,by omega,λx H' y=>hb i x H H' h s y⟩
 ·have:i=n:=by omega
  subst this
  exact .inl ⟨hstop H s,by omega,λp hp=>hk p H s hp⟩
theorem Zpj {ns T:List Int}{g:Nat->Int} (hT:ZQ ns T) (hg:∀q p,q<ns.length->p<ns.length->Over (nth ns) q p->(q<p->g q<=g p)/\(p<q->g q<g p)):∀p,p<ns.length->ZJ g ns.length p (T.getD p 0):=by
 intro p hp
 have pv:∀q,ZaK (nth ns) p q->ZaK g p q:=λq h=>by
  refine⟨h.1,(hg q p (by have:=h.1;omega) hp (.inl ⟨h.1,λr r1 r2=>?_⟩)).1 h.1,λr r1 r2=>(hg p r hp (by omega) (.inr ⟨r2,λs s1 s2=>h.2.2 s (by omega) s2⟩)).2 r2⟩
  by_cases z:r=p
  ·rw[z];exact h.2.1
  ·have:=h.2.2 r r1 (by omega);have:=h.2.1;omega
 have nx:∀r,Zav (nth ns) ns.length p r->Zav g ns.length p r:=λq h=>by
  refine⟨h.1,h.2.1,(hg q p h.2.1 hp (.inr ⟨h.1,λr r1 r2=>?_⟩)).2 h.1,λs s1 s2=>(hg p s hp (by have:=h.2.1;omega) (.inl ⟨s1,λr r1 r2=>h.2.2.2 r r1 (by omega)⟩)).1 s1⟩
  by_cases z:r=p
  ·rw[z];exact h.2.2.1
  ·have:=h.2.2.2 r (by omega) r2;have:=h.2.2.1;omega
 have np:Zdk (nth ns) p->Zdk g p:=λh q hq=>(hg p q hp (by omega) (.inr ⟨hq,λr r1 r2=>h r r2⟩)).2 hq
 have nn:Zb6 (nth ns) ns.length p->Zb6 g ns.length p:=λh r r1 r2=>(hg p r hp r2 (.inl ⟨r1,λs s1 s2=>h s s1 (by omega)⟩)).1 r1
 have hE:ZJ (nth ns) ns.length p (T.getD p 0):=hT.2 p hp
 rcases hE with⟨h1,h2,h⟩|⟨q,h1,h2,h⟩|⟨r,h1,h2,h⟩|⟨q,r,h1,h2,h⟩
 ·exact .inl ⟨np h1,nn h2,h⟩
 ·exact .inr (.inl ⟨q,pv q h1,nn h2,h⟩)
 ·exact .inr (.inr (.inl ⟨r,np h1,nx r h2,h⟩))
 ·refine .inr (.inr (.inr ⟨q,r,pv q h1,nx r h2,?_⟩))
  rw[h]
  have hq:q<ns.length:=by have:=h1.1;omega
  have hqr:q<r:=by have:=h1.1;have:=h2.1;omega
  by_cases z:nth ns q<=nth ns r
  ·have:=(hg q r hq h2.2.1 (.inl ⟨hqr,λs s1 s2=>by
    by_cases y:s=r
    ·rw[y];exact z
    ·by_cases y2:s=p
     ·rw[y2];exact h1.2.1
     ·have:=h1.2.1
      by_cases y3:s<p
      ·have:=h1.2.2 s s1 y3;omega
      ·have:=h2.2.2.2 s (by omega) (by omega);omega⟩)).1 hqr
   rw[Yd z,Yd (by omega)]
  ·have:=(hg r q h2.2.1 hq (.inr ⟨hqr,λs s1 s2=>by
    have:=h1.2.1;have:=h2.2.2.1
    by_cases y:s=q
    ·rw[y];omega
    ·by_cases y2:s=p
     ·rw[y2];omega
     ·by_cases y3:s<p
      ·have:=h1.2.2 s (by omega) y3;omega
      ·have:=h2.2.2.2 s (by omega) (by omega);omega⟩)).2 hqr
   rw[Yb z,Yb (by omega)]
end L2
namespace HT
open PySem PyProof.Rows
section
open PySem.SeqAt
open PySem.AutoSeq1 (wpAny_loadPart')
open PySem.MeetsSeq PySem.MeetsSeq2 PySem.MeetsSeq3
variable {prog:Program}{w:World}{A:Around}{E:Value->Shared->Prop}{s:Shared}
theorem Zf8 {t sl:Addr}{items:Array Value}{vl vu:Value}{lo hi:Option Int}{Q:Value->Shared->Prop} (ht:IsTup s.heap t items) (hs:s.heap.IsSliceOf sl vl vu .none) (pl:IsPart vl lo) (pu:IsPart vu hi)
  (hw:sIx items.size 0 lo=0/\sIx items.size items.size hi=items.size) (h:Q (.ref t) s):wpAny (model prog w) A (getItem (.ref t) (.ref sl)) Q E s:=by
 obtain⟨os,hos,hcs,hds⟩:=id hs
 have hTs:s.TypeIs (.ref sl) "slice":=⟨os,hos,hcs⟩
 unfold getItem
 try with_reducible refine wpAny_holding ?_
 first|refine Ya (Yc ?_)|skip
 refine Ya (wpAny_sequenceKey ht.typeIs (by decide) ?_)
 refine Ya (wpAny_callSpecial?_slot (name:=Str.ofString "__getitem__") ht.typeIs PyProof.Rows.slot_tuple_getitem
  (wpAny_call_entry PyProof.Rows.slot_tuple_getitem ht.typeIs entry_tuple_getitem ?_ (args_tuple_getitem _ _)))
 show wpAny _ _ (Builtin.Tuple.tupleItemsOf (.ref t) >>= _) _ _ s
 refine Ya (tupleItemsOf_ ht ?_)
 refine Ya (wpAny_typeOf hTs ?_)
 rw[Yd (by decide)]
 refine Ya (ZcW hs pl pu ?_)
 have hyes:(((sIx items.size 0 lo:Nat):Int)==0&&(1:Int)==1&&(sIx items.size items.size hi-sIx items.size 0 lo)==items.size)=true:=by
  rw[hw.1,hw.2];simp
 show wpAny _ _ (if (((sIx items.size 0 lo:Nat):Int)==0&&(1:Int)==1&&(sIx items.size items.size hi-sIx items.size 0 lo)==items.size)=true then _ else _) _ _ s
 rw[Yd hyes]
 refine Ya ?_
 unfold Builtin.Tuple.tupleIsExact
 refine Ya (wpAny_typeOf ht.typeIs (Yc ?_))
 rw[Yd (by decide)]
 refine Ya (wpAny_rule ?_)
 first
  |exact Yc ⟨_,rfl,Yc h⟩
  |exact Ya (Yc (Yc ⟨_,rfl,Yc h⟩))
  |exact Ya (Yc ⟨_,rfl,Yc h⟩)
end
end HT
namespace L2
open PySem PySem.Spec PyProof.Rows PySem.W
section
variable {X:Cx}
noncomputable def rSlQ (K:Frag):V->Option Int->Option Int->Hp->VK->Prop:=λx lo hi H Q=>∃a xs,x=.ref a/\((SqL K H a xs/\∀p,H p=none->Q (.ref p) (upd H p (.lst (Zcy xs lo hi)))) \/
 (SqT K H a xs/\(HT.sIx xs.length 0 lo=0/\HT.sIx xs.length xs.length hi=xs.length->Q (.ref a) H)/\(¬ (HT.sIx xs.length 0 lo=0/\HT.sIx xs.length xs.length hi=xs.length)->∀p,H p=none->Q (.ref p) (upd H p (.tup (Zcy xs lo hi))))))
theorem sl_q {K:Frag} (hK:X.K=K):SlR X (rSlQ K):=by
 subst hK
 intro pins s σ H x v vl vu lo hi sl Q I rx hs pl pu h
 obtain⟨a,xs,rfl,h|⟨hx,h1,h2⟩⟩:=h
 ·exact ZfV pins s σ H _ v vl vu lo hi sl Q I rx hs pl pu ⟨a,xs,rfl,h⟩
 ·by_cases hw:HT.sIx xs.length 0 lo=0/\HT.sIx xs.length xs.length hi=xs.length
  ·cases rx
   obtain⟨its,r,ht,hz⟩:=I.tuple hx
   have hlen:its.toArray.size=xs.length:=by rw[Yr];exact r.length.symm
   refine⟨"tuple",_,PyProof.Rows.slot_tuple_getitem.lookup,ht.typeIs,?_⟩
   exact HT.Zf8 ht hs pl pu (by rw[hlen];exact hw) ⟨.ref a,H,I,rfl,h1 hw⟩
  ·exact sl_tup pins s σ H _ v vl vu lo hi sl Q I rx hs pl pu ⟨a,xs,rfl,hx,hw,h2 hw⟩
end
section
variable {X:Cx}{tg l:Expr}{tl:TE}
theorem Zpk {K:Frag} (hK:X.K=K) (hl:PE X l tl):PI X tg l (Zmo K tl):=hK▸Zdh hl
end
theorem Znp {xs:List V}{lo hi:Option Int} (h:HT.sIx xs.length 0 lo=0/\HT.sIx xs.length xs.length hi=xs.length):Zcy xs lo hi=xs:=by
 unfold Zcy
 rw[h.1,h.2];simp
theorem ZkJ (T:List Int):∀k a,(Z7 T k a).length<k->Z7 T (k+1) a=Z7 T k a
 |0,_,h=>by omega
 |k+1,a,h=>by
  rw[Z7]at h⊢
  by_cases z:0<=a/\a<T.length
  ·rw[Yd z]at h⊢
   rw[ZkJ T k _ (by simpa using h),Z7,Yd z]
  ·rw[Yb z]at h⊢
   rw[Z7,Yb z]
noncomputable def way (T:List Int) (p:Nat):List Nat:=Z7 T T.length (nth T p)
theorem Zf9 {T:List Int}{p:Nat} (h:nth T p=-1):way T p=[]:=by
 unfold way
 rw[h]
 cases T.length with
 |zero=>rfl
 |succ k=>rw[Z7,Yb (by omega)]
theorem Zb8 {ns T:List Int} (hT:ZQ ns T) {p q:Nat} (hp:p<ns.length) (h:nth T p=q):way T p=q::way T q:=by
 have hE:ZJ (nth ns) ns.length p (q:Int):=h▸hT.2 p hp
 have hq:q<ns.length:=by
  rcases Zb7 hp hE with z|⟨q',e,z,_⟩<;>omega
 have hd:=ZgB hp hE
 have hl:=ZlI (f:=nth ns) hp
 unfold way
 rw[h,hT.1]
 obtain⟨k,hk⟩:∃k,ns.length=k+1:=⟨ns.length-1,by omega⟩
 rw[hk,Z7,Yd ⟨by omega,by rw[hT.1];omega⟩,show((q:Nat):Int).toNat=q by omega]
 rw[ZkJ T k (nth T q)]
 rw[(Zf3 hT k q hq (by omega)).2]
 omega
theorem Zet (T:List Int) (p:Nat):Zar T p=(way T p).map λq=>((q:Nat):Int):=rfl
theorem ZS {ns T:List Int} (hT:ZQ ns T) {p:Nat} (hp:p<ns.length):nth T p=-1\/∃q:Nat,nth T p=q/\q<ns.length/\Over (nth ns) q p/\dep (nth ns) ns.length p=dep (nth ns) ns.length q+1:=by
 rcases Zb7 hp (hT.2 p hp)with z|⟨q,e,hq,hO⟩
 ·exact .inl z
 ·have e':nth T p=(q:Int):=e
  have hE:ZJ (nth ns) ns.length p (q:Int):=e'▸hT.2 p hp
  exact .inr ⟨q,e,hq,hO,ZgB hp hE⟩
noncomputable def Za8 (T:List Int) (p:Nat):Nat:=((way T p).filter λo=>decide (p<o)).length
noncomputable def Zl (T:List Int):List Int:=(List.range T.length).map λp=>(Za8 T p:Int)
theorem Zak (T:List Int):(Zl T).length=T.length:=by simp[Zl]
theorem Zjf {T:List Int}{p:Nat} (h:p<T.length):nth (Zl T) p=Za8 T p:=by simp[nth,Zl,Yp,h]
theorem Zc3 {P Q:Nat->Bool}{l:List Nat} (h:∀x∈l,P x=Q x):(l.filter P).length=(l.filter Q).length:=by
 rw[List.filter_congr h]
theorem ZhJ {ns T:List Int} (hT:ZQ ns T) {p o:Nat} (hp:p<ns.length):o∈way T p↔o<ns.length/\Over (nth ns) o p:=by
 unfold way
 rw[hT.1]
 exact(Zf3 hT ns.length p hp (YW (ZlI hp))).1 o
theorem Znq {f:Nat->Int}{o q p:Nat} (h:Over f o q) (k:Over f q p):(p<q->p<o->q<o)/\(q<p->q<o->p<o):=by
 refine⟨λh1 h2=>Nat.lt_of_not_le λz=>?_,λh1 h2=>Nat.lt_of_not_le λz=>?_⟩
 ·rcases h with⟨a,b⟩|⟨a,b⟩
  ·rcases k with⟨c,d⟩|⟨c,d⟩
   ·omega
   ·have:=d o (by omega) a;have:=b q a (Yf _);omega
  ·omega
 ·rcases h with⟨a,b⟩|⟨a,b⟩
  ·omega
  ·rcases k with⟨c,d⟩|⟨c,d⟩
   ·have:=d o h2 z;have:=b q (Yf _) a;omega
   ·omega
theorem Znr {ns T:List Int} (hT:ZQ ns T) {p q:Nat} (hp:p<ns.length) (hq:q<ns.length) (h:nth T p=q) (hO:Over (nth ns) q p):Za8 T p=Za8 T q+if p<q then 1 else 0:=by
 unfold Za8
 rw[Zb8 hT hp h,List.filter_cons]
 have e:((way T q).filter λo=>decide (p<o)).length=((way T q).filter λo=>decide (q<o)).length:=by
  refine Zc3 λo ho=>?_
  have ho':=((ZhJ hT hq).mp ho).2
  have hs:=Znq ho' hO
  have hne:=hO.ne
  have hne2:=ho'.ne
  rw[Bool.eq_iff_iff,decide_eq_true_eq,decide_eq_true_eq]
  rcases Nat.lt_or_gt_of_ne hne with z|z
  ·exact⟨λy=>by omega,λy=>hs.2 z y⟩
  ·exact⟨λy=>hs.1 z y,λy=>by omega⟩
 by_cases z:p<q
 ·rw[Yd (by simpa using z),Yd z,YM,e]
 ·rw[Yb (by simpa using z),Yb z,e,Nat.add_zero]
theorem Zpl {ns T:List Int} (hT:ZQ ns T) {R:Nat->Nat->Prop} (h1:∀p q,p<ns.length->q<ns.length->nth T p=q->Over (nth ns) q p->R q p) (h2:∀o q p,Over (nth ns) o q->Over (nth ns) q p->R o q->R q p->R o p) :
  ∀d p o,p<ns.length->o<ns.length->dep (nth ns) ns.length p=d->Over (nth ns) o p->R o p:=by
 intro d
 induction d with
 |zero =>
  intro p o hp ho hd hO
  rcases ZS hT hp with z|⟨q,e,hq,hOq,hdq⟩
  ·exact absurd hO (Ze3 hp ho (z▸hT.2 p hp))
  ·omega
 |succ d ih =>
  intro p o hp ho hd hO
  rcases ZS hT hp with z|⟨q,e,hq,hOq,hdq⟩
  ·exact absurd hO (Ze3 hp ho (z▸hT.2 p hp))
  ·rcases(ZhG hp ho (show ZJ (nth ns) ns.length p (q:Int)from(show T.getD p 0=(q:Int)from e)▸hT.2 p hp)).mp hO with y|y
   ·rw[y];exact h1 p q hp hq e hOq
   ·exact h2 o q p y hOq (ih q o hq ho (by omega) y) (h1 p q hp hq e hOq)
theorem Zns {ns T:List Int} (hT:ZQ ns T) {p o:Nat} (hp:p<ns.length) (ho:o<ns.length) (hO:Over (nth ns) o p):Za8 T o<=Za8 T p/\(p<o->Za8 T o<Za8 T p):=by
 refine Zpl hT (R:=λo p=>Za8 T o<=Za8 T p/\(p<o->Za8 T o<Za8 T p)) (λp q hp hq e hO=>?_) (λo q p h1 h2 r1 r2=>?_) _ p o hp ho rfl hO
 ·have:=Znr hT hp hq e hO
  refine⟨by omega,λz=>?_⟩
  rw[Yd z]at this;omega
 ·refine⟨Yn r1.1 r2.1,λz=>?_⟩
  by_cases y:p<q
  ·have:=r2.2 y;have:=r1.1;omega
  ·have hne:=h2.ne
   have:=r1.2 (by omega);have:=r2.1;omega
theorem Znt {ns T:List Int} (hT:ZQ ns T):ZQ (Zl T) T:=by
 have eT:T.length=ns.length:=hT.1
 refine⟨by rw[Zak],λp hp=>?_⟩
 rw[Zak,eT]at hp⊢
 refine Zpj hT (λq p hq hp hO=>?_) p hp
 have:=Zns hT hp hq hO
 rw[Zjf (by omega),Zjf (by omega)]
 exact⟨λ_=>by omega,λz=>by have:=this.2 z;omega⟩
section
variable {X:Cx}{pins:List (Addr×Obj)}{σ:St}{H:Hp}{s:Shared}{h':Heap}
theorem Inv.Zrv {t':Nat}{fp:List Addr}{T:Addr}{o:HO} (I:Inv X pins σ H s) (k:∀b u,b∉fp->s.heap.get? b=some u->h'.get? b=some u) (hf:∀b∈fp,FpOk X pins H b) (hT:s.heap.objs.size<=T) (new:Zaf X.prog X.w (upd H T o) h' T o) :
  Inv X pins σ (upd H T o) {s with heap:=h',toks:=t'}:=by
 have nit:∀b u,H b=some u->b∉fp:=λb u e z=>by rw[(hf b z).1]at e;cases e
 have hfr:H T=none:=I.hok.fresh hT
 have neT:∀b u,s.heap.get? b=some u->b≠T:=λb u e z=>absurd (Yj e) (by rw[z];exact Nat.not_lt_of_le hT)
 have neH:∀b u,H b=some u->b≠T:=λb u e z=>by rw[z,hfr]at e;cases e
 refine I.step (g':=s.gens) (d':=s.drawn) (ch:=fp) (λb hb=>?_) (λb o _ _ hc e _=>k b o hc e) (λb o _ _ hc e _=>⟨o.slots,k b o hc e⟩) (λb u _ e n=>by rw[Zj (neT b u e)];exact n)
  (λb o hc e=>⟨o,k b o hc e⟩) (λb xs e=>by rw[Zj (neH b _ e)];exact e) (λb o u e=>by rw[Zj (neH b _ e)];exact e) (λb ps e=>⟨#[],by rw[Zj (neH b _ e),e];simp⟩) (λm hm=>?_) (λb u e=>?_) I.bare
 ·obtain⟨_,f1,_,f3,f4,f5⟩:=hf b hb
  exact⟨f3,f1,f4,f5⟩
 ·obtain⟨o,es,ep,ho,r⟩:=hm
  exact⟨o,es,ep,k _ o (λz=>(hf _ z).2.1 rfl) ho,r⟩
 ·by_cases z:b=T
  ·subst z
   rw[Zc]at e;cases e
   exact new
  ·rw[Zj z]at e
   refine(I.hok b u e).ZfQ (λc v hc q=>k c v ?_ q) (λc q=>?_) (λc xs q=>?_) λc o u q=>?_
   ·rcases hc with y|y
    ·rw[y];exact nit b u e
    ·exact nit c _ y
   ·rw[Zj (neH _ _ q)];exact q
   ·rw[Zj (neH _ _ q)];exact q
   ·rw[Zj (neH _ _ q)];exact q
noncomputable def Ite (K : Frag) (a : Addr) : It :=
  ⟨fun i H => ∃ xs x, SqL K H a xs ∧ xs[i]? = some x,
   fun i H v H' => ∃ p x, H p = none ∧ v = .ref p ∧ H' = upd H p (.tup [.int (i : Int), x]) ∧ ∀ xs, SqL K H a xs → xs[i]? = some x,
   fun i H => ∃ xs, SqL K H a xs ∧ xs.length = i⟩
theorem Znu {P:Program}{w:World}{K:Frag}{elts:List Expr} {x1}{pos:Pos}{a e it:Addr} (h1:e≠it) (h2:a≠e) (h3:a≠it) :
  Turn P w K (.Tuple elts x1 pos) (Ite K a) [e,it] e (λi h=>(∃old,IsEnum h e it (i:Int) old)/\h.IsListIter it a i) where
 mem:=by simp
 obj:=λi h st c hc=>by
  obtain⟨⟨old,q1⟩,⟨o4,q4,_,d4⟩⟩:=st
  simp at hc
  rcases hc with rfl|rfl
  ·exact⟨_,q1,λv z=>by cases z⟩
  ·exact⟨_,q4,λv z=>by rw[d4]at z;cases z⟩
 keep:=λi h h' st k=>by
  obtain⟨⟨old,q1⟩,q4⟩:=st
  exact⟨⟨old,k e (by simp) _ q1⟩,q4.at λo z=>k it (by simp) o z⟩
 item:=by
  intro X hP hw hK hc i pins s σ H E I hf st hg
  subst hP hw hK
  obtain⟨xs,x,qa,hx⟩:=hg
  obtain⟨is1,r1,p1,hz1⟩:=I.list qa
  obtain⟨u,hu,ru⟩:=r1.get hx
  have W:=WalksT.enumerate (prog:=X.prog) (w:=X.w) (I.ok.hd hc) e it a h1 h2 h3 is1.toArray
  have hi:i<is1.toArray.size:=by
   have:=(Yw.mp hu).1
   simpa using this
  refine W.item i s _ E hi ⟨st.1,st.2,p1.isList⟩ λT vals h' tk Pt hT hTup Mid keep=>⟨_,rfl,W.go elts x1 pos i T _ _ E Mid λh2' St2 keep2=>?_⟩
  obtain⟨t,y,hy,rfl⟩:=Pt
  have hyu:y=u:=by
   have:is1[i]?=some y:=by simpa using hy
   rw[hu]at this;exact(YD this).symm
  subst hyu
  have nT:=W.apart i T h' Mid
  have hfr:H T=none:=I.hok.fresh hT
  have kk:∀b o,b∉[e,it]->s.heap.get? b=some o->h2'.get? b=some o:=λb o hb q=>keep2 b o hb (keep b o hb q)
  have nTe:∀c∈[e,it],c≠T:=λc hc z=>nT (z▸hc)
  refine⟨.ref T,_,Inv.Zrv (s:=s) (t':=tk) (o:=.tup [.int (i:Int),x]) I kk hf hT ?_,rfl,⟨T,x,hfr,rfl,rfl,λxs' q'=>?_⟩,⟨?_,St2.2.1⟩,λc hc=>?_⟩
  ·obtain⟨oT,q1,q2,n,q3⟩:=hTup
   exact⟨by show 2<=sizeLine;decide,[.int (i:Int) t,y],.cons ⟨t,rfl⟩ (.cons ru .nil),⟨oT,keep2 T oT nT q1,q2,n,q3⟩⟩
  ·rw[I.ZcV q' qa];exact hx
  ·obtain⟨old,q⟩:=St2.1
   exact⟨old,by rw[show(((i+1:Nat)):Int)=(i:Int)+1 by omega]at *;exact q⟩
  ·rw[Zj (nTe c hc)];exact(hf c hc).1
 done:=by
  intro X hP hw hK hc i pins s σ H E I hf st hg
  subst hP hw hK
  obtain⟨xs,qa,hx⟩:=hg
  obtain⟨is1,r1,p1,_⟩:=I.list qa
  have W:=WalksT.enumerate (prog:=X.prog) (w:=X.w) (I.ok.hd hc) e it a h1 h2 h3 is1.toArray
  have hi:i=is1.toArray.size:=by
   have:=r1.length
   simp;omega
  refine W.done s _ E ?_ λh' tk keep=>⟨rfl,I.ZjI (t':=tk) (fp:=[e,it]) (λc o hc q=>keep c o hc q) hf⟩
  rw[<-hi]
  exact⟨st.1,st.2,p1.isList⟩
 self:=λA i s Q E st h=>by
  obtain⟨⟨old,q⟩,_⟩:=st
  exact wpAny_pyIter_enum q h
noncomputable def Zpm (K:Frag) (ta:TA):TI:=fun σ H R=>ta σ H λvs H1=>∃a xs,vs=[.ref a]/\SqL K H1 a xs/\R (Ite K a) H1
theorem ZlK:bootBuiltins "enumerate"=some (.type "enumerate"):=by decide +kernel
theorem Zrw {K:Frag}{elts:List Expr} {x1}{tp:Pos}{e1:Expr}{ta:TA}{p pos:Pos} (hK:X.K=K) (hg:Gl X "enumerate") (hm:X.mg "enumerate"=none) (ha:PA X [e1] ta) (hs:starEach [e1] X.env=[(false,eval e1 X.env)]:=by rfl) :
  PI X (.Tuple elts x1 tp) (.Call (.Name "enumerate" p) [e1] [] pos) (Zpm K ta):=by
 subst hK
 intro pins s σ H R I h
 refine wpAny_Call_Name_kw (Zcw I hg hm ZlK ?_)
 refine PyProof.Rows.callWith_type1 (thn (ha pos pins s σ H _ I h) λus s1 ⟨vs,H1,I1,r1,a,xs,e1,qa,q⟩=>?_) hs rfl
 subst e1
 obtain⟨u,rfl,ru⟩:=r1.one
 cases(show u=Value.ref a from ru)
 obtain⟨is1,rr1,p1,_⟩:=I1.list qa
 refine call_enumerate_list p1.isList λh' c1 c2 c3 c4=>?_
 have l1:a<s1.heap.objs.size:=by obtain⟨o,e,_⟩:=p1.isList;exact Yj e
 have sm:∀b,s1.heap.objs.size<=b->FpOk X pins H1 b:=λb hb=>I1.fpOk hb (I1.hok.fresh hb)
 have n1:s1.heap.objs.size+1≠s1.heap.objs.size:=by show ¬ ((_:Nat)=_);omega
 have n2:a≠s1.heap.objs.size+1:=Yo (YN l1)
 have n3:a≠s1.heap.objs.size:=Yo l1
 have T:=Znu (P:=X.prog) (w:=X.w) (K:=X.K) (elts:=elts) (x1:=x1) (pos:=tp) n1 n2 n3
 refine T.self _ 0 _ _ _ ⟨⟨_,c1⟩,c2⟩ ?_
 refine⟨_,[s1.heap.objs.size+1,s1.heap.objs.size],_,_,H1,rfl,I1.kept (t':=s1.toks) c4,T,⟨⟨_,c1⟩,c2⟩,λc hc=>?_,q⟩
 simp at hc
 rcases hc with rfl|rfl<;>exact sm _ (by omega)
end
theorem bt_abs:bootBuiltins "abs"=some (.builtin "abs"):=by decide +kernel
theorem ifR {c:TT}{t u:TS}{D:Ends}{σ:St}{H:Hp} (T U:Hp->Prop) (ht:∀H1,T H1->t D σ H1) (hu:∀H1,U H1->u D σ H1) (hc:∀B:Bool->Hp->Prop,(∀H1,T H1->B true H1)->(∀H1,U H1->B false H1)->c σ H B):tIfS c t u D σ H :=
 hc _ (λH1 h=>by rw[Yd rfl];exact ht H1 h) (λH1 h=>by rw[Yb (by simp)];exact hu H1 h)
section
variable {X:Cx}
theorem Zjg:bootBuiltins "sorted"=some (.builtin "sorted"):=by decide +kernel
end
section
variable {prog:Program}{w:World}{A:Around}{E Q:Value->Shared->Prop}{s:Shared}{it t:Addr}{i:Nat}{items:Array Value}
theorem Zga {x:Value} (hi:s.heap.IsTupleIter it t i) (ht:s.heap.IsTuple t items) (hx:items[i]?=some x) (h:∀h',h'.IsTupleIter it t (i+1)->Heap.SameBut it s.heap h'->Q x {s with heap:=h'}):wpAny (model prog w) A (Builtin.SmallTypes.nextOf (.ref it)) Q E s:=by
 obtain⟨o,ho,hc,hd⟩:=id hi
 obtain⟨ot,hot,hct,n,hdt⟩:=id ht
 have hT:s.TypeIs (.ref it) "tuple_iterator":=⟨o,ho,hc⟩
 unfold Builtin.SmallTypes.nextOf
 refine Ya (wpAny_callSpecial?_slot hT F.slot_tuple_iterator_next (wpAny_call_entry F.slot_tuple_iterator_next hT F.entry_tuple_iterator_next ?_ (F.args_tuple_iterator_next_1 _)))
 show wpAny _ _ (_ >>= _) _ _ _
 refine Ya (wpAny_of_eq (show slotArgs "__next__" 0 {pos:=[.ref it]}=pure (.ref it,[])from rfl) ?_)
 refine Ya (wpAny_field ho hd (x:=.ref t) rfl ?_)
 rw[Yb (by simp)]
 refine Ya (wpAny_field ho hd (x:=.int (i:Int) 0) rfl ?_)
 refine Ya (wpAny_seqItems hot hdt ?_)
 dsimp only
 rw[Y6,hx]
 refine Ya (wpAny_setField ho hd (by show 1<2;decide) (Yc ⟨x,rfl,?_⟩))
 refine Yc (h _ ?_ ⟨by simp,λb hb=>Heap.get?_update_other _ _ (Ne.symm hb)⟩)
 obtain⟨cls,dict,data,slots⟩:=o
 simp only at hc hd
 subst hc hd
 exact⟨_,Heap.get?_update_self _ ho rfl,rfl,rfl⟩
theorem ZgD (hA:A.handled=none) (hi:s.heap.IsTupleIter it t i) (ht:s.heap.IsTuple t items) (hx:items[i]?=none) (h:∀h' e,Heap.ExtBut it s.heap h'->(∃o,h'.get? e=some o/\o.cls=.type "StopIteration")->E (.ref e) {s with heap:=h'}):wpAny (model prog w) A (Builtin.SmallTypes.nextOf (.ref it)) Q E s:=by
 obtain⟨o,ho,hc,hd⟩:=id hi
 obtain⟨ot,hot,hct,n,hdt⟩:=id ht
 have hT:s.TypeIs (.ref it) "tuple_iterator":=⟨o,ho,hc⟩
 unfold Builtin.SmallTypes.nextOf
 refine Ya (wpAny_callSpecial?_slot hT F.slot_tuple_iterator_next (wpAny_call_entry F.slot_tuple_iterator_next hT F.entry_tuple_iterator_next ?_ (F.args_tuple_iterator_next_1 _)))
 show wpAny _ _ (_ >>= _) _ _ _
 refine Ya (wpAny_of_eq (show slotArgs "__next__" 0 {pos:=[.ref it]}=pure (.ref it,[])from rfl) ?_)
 refine Ya (wpAny_field ho hd (x:=.ref t) rfl ?_)
 rw[Yb (by simp)]
 refine Ya (wpAny_field ho hd (x:=.int (i:Int) 0) rfl ?_)
 refine Ya (wpAny_seqItems hot hdt ?_)
 dsimp only
 rw[Y6,hx]
 refine Ya (wpAny_rule (Ya (wpAny_setField ho hd (by show 0<2;decide) ?_)))
 unfold Builtin.SmallTypes.stopIteration
 refine Ya ?_
 unfold newExc
 refine Ya (wpAny_newTuple ?_ (Yt _))
 refine Ya (wpAny_of_eq (show firstArgMember (.type "StopIteration") []=pure .none by first|rfl|(unfold firstArgMember;rfl)) ?_)
 refine wpAny_newObj_type (wpAny_raiseNew_none hA (h _ _ (λb o' hb e=>?_) ⟨_,Yv _ rfl,rfl⟩))
 exact Yi _ (Yi _ ((Heap.get?_update_other _ _ (Ne.symm hb)).trans e))
end
theorem Zpn {J:It}{n:Nat}{g:TG}{tb:TS}{D:Ends}{σ:St}{H:Hp} (Pv:Nat->St->Hp->Prop) (h0:Pv 0 σ H) (hgo:∀i σ H,i<n->Pv i σ H->J.go i H) (hstop:∀σ H,Pv n σ H->J.stop n H)
  (hs:∀i x σ H H',i<n->Pv i σ H->J.yld i H x H'->g x σ H' fun σ2 H2=>tb {D with nx:=Pv (i+1),ct:=Pv (i+1),bk:=D.nx} σ2 H2) (hd:∀σ H,Pv n σ H->D.nx σ H):LoopR J g tb D σ H:=by
 refine⟨λi m σ H=>m=n-i/\i<=n/\Pv i σ H,⟨n,by simp,Yt _,h0⟩,?_⟩
 rintro i m σ H ⟨rfl,hi,p⟩
 by_cases hlt:i<n
 ·exact .inr ⟨hgo i σ H hlt p,Pv (i+1),fun σ' H' p'=>⟨n-(i+1),by omega,rfl,hlt,p'⟩,λx H' y=>hs i x σ H H' hlt p y⟩
 ·have:i=n:=by omega
  subst this
  exact .inl ⟨hstop σ H p,hd σ H p⟩
theorem ZhK (l:List Nat):ZC l=(l.map λq=>((q:Nat):Int)).map V.int:=by simp[ZC,Function.comp_def]
noncomputable def eU (e:Addr->Bool):Value->Bool
 |.ref a=>e a
 |_=>false
end L2
namespace PySem
open Sem (wp)
end PySem
namespace L2
open PySem PySem.Spec PyProof.Rows PySem.W
noncomputable def QIt (h:Heap) (i l:Addr) (k:Nat) (xs:Array Value):Prop:=(h.IsListIter i l k/\h.IsList l xs)\/(h.IsTupleIter i l k/\h.IsTuple l xs)
theorem QIt.ext {h h':Heap}{i l b:Addr}{k:Nat}{xs:Array Value} (x:QIt h i l k xs) (hs:Heap.ExtBut b h h') (n1:i≠b) (n2:l≠b):QIt h' i l k xs:=by
 rcases x with⟨p,q⟩|⟨p,q⟩
 ·exact .inl ⟨p.extBut hs n1,q.extBut hs n2⟩
 ·obtain⟨o,ho,r⟩:=q
  exact .inr ⟨p.extBut hs n1,⟨o,hs _ _ n2 ho,r⟩⟩
theorem QIt.at {h h':Heap}{i l:Addr}{k:Nat}{xs:Array Value} (x:QIt h i l k xs) (e1:∀o,h.get? i=some o->h'.get? i=some o) (e2:∀o,h.get? l=some o->h'.get? l=some o):QIt h' i l k xs:=by
 rcases x with⟨p,⟨o,ho,r⟩⟩|⟨⟨o1,p1,r1⟩,⟨o,ho,r⟩⟩
 ·exact .inl ⟨p.at e1,⟨o,e2 o ho,r⟩⟩
 ·exact .inr ⟨⟨o1,e1 _ p1,r1⟩,⟨o,e2 o ho,r⟩⟩
section
variable {prog:Program}{w:World}{A:Around}{E Q:Value->Shared->Prop}{s:Shared}{it l:Addr}{k:Nat}{xs:Array Value}
theorem Zft {x:Value} (q:QIt s.heap it l k xs) (hn:l≠it) (hx:xs[k]?=some x) (h:∀h',QIt h' it l (k+1) xs->Heap.SameBut it s.heap h'->Q x {s with heap:=h'}):wpAny (model prog w) A (Builtin.SmallTypes.nextOf (.ref it)) Q E s:=by
 rcases q with⟨q1,q2⟩|⟨q1,q2⟩
 ·exact wpAny_nextOf_list_item q1 q2 hx λh' a b=>h h' (.inl ⟨a,q2.extBut b.extBut hn⟩) b
 ·refine Zga q1 q2 hx λh' a b=>h h' (.inr ⟨a,?_⟩) b
  obtain⟨o,ho,r⟩:=q2
  exact⟨o,b.extBut _ _ hn ho,r⟩
theorem Zjh (hA:A.handled=none) (q:QIt s.heap it l k xs) (hx:xs[k]?=none) (h:∀h' e,Heap.ExtBut it s.heap h'->(∃o,h'.get? e=some o/\o.cls=.type "StopIteration")->E (.ref e) {s with heap:=h'}):wpAny (model prog w) A (Builtin.SmallTypes.nextOf (.ref it)) Q E s:=by
 rcases q with⟨q1,q2⟩|⟨q1,q2⟩
 ·exact wpAny_nextOf_list_end hA q1 q2 hx h
 ·exact ZgD hA q1 q2 hx h
end
section
variable {prog:Program}{w:World}{A:Around}{E:Value->Shared->Prop}{s:Shared}{z TI TO i1 i2 l1 l2:Addr}{k1 k2:Nat}{xs ys:Array Value}{a b:Value}
noncomputable def ZkK (z TO i1 i2:Addr) (h h':Heap):Prop:=∀c o,c≠z->c≠TO->c≠i1->c≠i2->h.get? c=some o->h'.get? c=some o
theorem Znv {x y:Value}{Q:Value->Shared->Prop} (D:ZipApart z TI TO i1 i2 l1 l2) (hz:IsZip s.heap z TI TO .none) (hI:IsPair s.heap TI (.ref i1) (.ref i2)) (hO:IsPair s.heap TO a b)
  (q1:QIt s.heap i1 l1 k1 xs) (q2:QIt s.heap i2 l2 k2 ys) (hx:xs[k1]?=some x) (hy:ys[k2]?=some y)
  (hQ:∀h',IsZip h' z TI TO (rawInt s.heap.objs.size)->IsPair h' TO x y->QIt h' i1 l1 (k1+1) xs->QIt h' i2 l2 (k2+1) ys->IsPair h' s.heap.objs.size x y->ZkK z TO i1 i2 s.heap h'->Q (.ref s.heap.objs.size) {s with heap:=h'}) :
  wpAny (model prog w) A (Builtin.«zip.__next__» ⟨[.ref z],[]⟩) (λfin s'=>∃v,fin=.done (.ret v)/\Q v s') E s:=by
 show wpAny _ _ (field (.ref z) 2 >>= _) _ _ _;refine Ya (wpAny_field hz rfl (x:=.bool false) rfl ?_)
 show wpAny _ _ (field (.ref z) 3 >>= _) _ _ _;refine Ya (wpAny_field hz rfl (x:=.ref TI) rfl ?_);refine Ya (wpAny_seqItems hI rfl ?_)
 show wpAny _ _ (Builtin.SmallTypes.ownedTupleIsFree (.ref z) >>= _) _ _ _;refine Ya ?_;unfold Builtin.SmallTypes.ownedTupleIsFree
 refine Ya (wpAny_field hz rfl (x:=.none) rfl (Yc ?_));simp only[if_true];refine Ya (wpAny_rule ?_);refine Ya (wpAny_field hz rfl (x:=.ref TO) rfl ?_)
 refine Ya (wpAny_setField_rec hz (by simp) λg1 z1 m1=>?_);replace z1:IsZip g1 z TI TO .ellipsis:=z1
 refine Ya ?_;simp only[List.zipIdx_cons,List.zipIdx_nil,List.forIn_cons,List.forIn_nil];refine Ya (Ya (wpAny_onRaise ?_))
 show wpAny _ _ (Builtin.SmallTypes.nextOf (.ref i1) >>= _) _ _ _;refine Ya (Zft (q1.ext m1.extBut D.i1z D.l1z) D.l1i1 hx λg2 p1 m2=>Yc ?_)
 have o2:IsPair g2 TO a b:=m2.extBut _ _ D.TOi1 (m1.extBut _ _ D.TOz hO)
 refine Ya (wpAny_seqItems o2 rfl ?_);refine Ya (wpAny_updateSeq_pair o2 λg3 o3 m3=>?_);replace o3:IsPair g3 TO x b:=o3
 refine Ya (wpAny_letGo (Yc ?_));refine Ya (Ya (wpAny_onRaise ?_))
 show wpAny _ _ (Builtin.SmallTypes.nextOf (.ref i2) >>= _) _ _ _
 refine Ya (Zft (((q2.ext m1.extBut D.i2z D.l2z).ext m2.extBut D.i12.symm D.l2i1).ext m3.extBut D.TOi2.symm D.l2TO) D.l2i2 hy λg4 p2 m4=>Yc ?_)
 have o4:IsPair g4 TO x b:=m4.extBut _ _ D.TOi2 o3
 refine Ya (wpAny_seqItems o4 rfl ?_);refine Ya (wpAny_updateSeq_pair o4 λg5 o5 m5=>?_);replace o5:IsPair g5 TO x y:=o5
 refine Ya (wpAny_letGo (Yc (Yc ?_)));refine Ya (wpAny_seqItems o5 rfl ?_);refine Ya (wpAny_newTuple ?_)
 have hsz:g5.objs.size=s.heap.objs.size:=by rw[m5.1,m4.1,m3.1,m2.1,m1.1]
 have z5:IsZip g5 z TI TO .ellipsis:=m5.extBut _ _ D.TOz.symm (m4.extBut _ _ D.i2z.symm (m3.extBut _ _ D.TOz.symm (m2.extBut _ _ D.i1z.symm z1)))
 have kk:ZkK z TO i1 i2 s.heap g5:=λc o c1 c2 c3 c4 e=>m5.extBut _ _ c2 (m4.extBut _ _ c4 (m3.extBut _ _ c2 (m2.extBut _ _ c3 (m1.extBut _ _ c1 e))))
 have r1:QIt g5 i1 l1 (k1+1) xs:=((p1.ext m3.extBut D.TOi1.symm D.l1TO).ext m4.extBut D.i12 D.l1i2).ext m5.extBut D.TOi1.symm D.l1TO
 have r2:QIt g5 i2 l2 (k2+1) ys:=p2.ext m5.extBut D.TOi2.symm D.l2TO
 have lz:z<g5.objs.size:=Yj z5
 show wpAny _ _ (Builtin.SmallTypes.ownedTupleHandOut (.ref z) (.ref g5.objs.size) >>= _) _ _ _;refine Ya ?_;unfold Builtin.SmallTypes.ownedTupleHandOut
 have z6:IsZip (g5.push {cls:=.type "tuple",data:=.seq #[x,y]}) z TI TO .ellipsis:=Yi _ z5
 refine Ya (wpAny_setField_rec z6 (by simp) λg7 z7 m7=>?_);replace z7:IsZip g7 z TI TO (rawInt g5.objs.size):=z7
 refine wpAny_setField_rec z7 (by simp) λg8 z8 m8=>?_;replace z8:IsZip g8 z TI TO (rawInt g5.objs.size):=z8
 have up:∀c o,c≠z->g5.get? c=some o->g8.get? c=some o:=λc o c1 e=>m8.extBut _ _ c1 (m7.extBut _ _ c1 (Yi _ e))
 have t8:IsPair g8 g5.objs.size x y:=m8.extBut _ _ (Nat.ne_of_gt lz) (m7.extBut _ _ (Nat.ne_of_gt lz) (Yv _ rfl))
 rw[hsz]at z8 t8
 refine Yc ⟨_,rfl,?_⟩;show Q (.ref g5.objs.size) _;rw[hsz]
 exact hQ g8 z8 (up _ _ D.TOz o5) (r1.at (λo e=>up _ o D.i1z e) λo e=>up _ o D.l1z e) (r2.at (λo e=>up _ o D.i2z e) λo e=>up _ o D.l2z e) t8 λc o c1 c2 c3 c4 e=>up c o c1 (kk c o c1 c2 c3 c4 e)
theorem Zpo {Q:Fin->Shared->Prop} (hA:A.handled=none) (D:ZipApart z TI TO i1 i2 l1 l2) (hz:IsZip s.heap z TI TO .none) (hI:IsPair s.heap TI (.ref i1) (.ref i2)) (hO:IsPair s.heap TO a b)
  (q1:QIt s.heap i1 l1 k1 xs) (q2:QIt s.heap i2 l2 k2 ys) (hend:xs[k1]?=none\/ys[k2]?=none)
  (hE:∀h' e,ZkK z TO i1 i2 s.heap h'->(∃o,h'.get? e=some o/\o.cls=.type "StopIteration")->E (.ref e) {s with heap:=h'}) :
  wpAny (model prog w) A (Builtin.«zip.__next__» ⟨[.ref z],[]⟩) Q E s:=by
 show wpAny _ _ (field (.ref z) 2 >>= _) _ _ _;refine Ya (wpAny_field hz rfl (x:=.bool false) rfl ?_)
 show wpAny _ _ (field (.ref z) 3 >>= _) _ _ _;refine Ya (wpAny_field hz rfl (x:=.ref TI) rfl ?_);refine Ya (wpAny_seqItems hI rfl ?_)
 show wpAny _ _ (Builtin.SmallTypes.ownedTupleIsFree (.ref z) >>= _) _ _ _;refine Ya ?_;unfold Builtin.SmallTypes.ownedTupleIsFree
 refine Ya (wpAny_field hz rfl (x:=.none) rfl (Yc ?_));simp only[if_true];refine Ya (wpAny_rule ?_);refine Ya (wpAny_field hz rfl (x:=.ref TO) rfl ?_)
 refine Ya (wpAny_setField_rec hz (by simp) λg1 z1 m1=>?_);replace z1:IsZip g1 z TI TO .ellipsis:=z1
 refine Ya ?_;simp only[List.zipIdx_cons,List.zipIdx_nil,List.forIn_cons,List.forIn_nil];refine Ya (Ya (wpAny_onRaise ?_))
 show wpAny _ _ (Builtin.SmallTypes.nextOf (.ref i1) >>= _) _ _ _
 cases hx:xs[k1]? with
 |none =>
  refine Ya (Zjh hA (q1.ext m1.extBut D.i1z D.l1z) hx λg2 e m2 he=>?_)
  obtain⟨oe,e1,e2⟩:=he
  have z2:IsZip g2 z TI TO .ellipsis:=m2 _ _ D.i1z.symm z1
  have nz:e≠z:=λq=>by subst q;rw[z2]at e1;cases e1;simp at e2
  exact wpAny_setField_rec z2 (by simp) λg3 _ m3=>hE g3 e (λc o c1 _ c3 _ q=>m3.extBut _ _ c1 (m2 _ _ c3 (m1.extBut _ _ c1 q))) ⟨oe,m3.extBut _ _ nz e1,e2⟩
 |some x =>
  have hy:ys[k2]?=none:=by rcases hend with h|h;rw[hx]at h;cases h;exact h
  refine Ya (Zft (q1.ext m1.extBut D.i1z D.l1z) D.l1i1 hx λg2 p1 m2=>Yc ?_)
  have o2:IsPair g2 TO a b:=m2.extBut _ _ D.TOi1 (m1.extBut _ _ D.TOz hO)
  refine Ya (wpAny_seqItems o2 rfl ?_);refine Ya (wpAny_updateSeq_pair o2 λg3 o3 m3=>?_);refine Ya (wpAny_letGo (Yc ?_));refine Ya (Ya (wpAny_onRaise ?_))
  show wpAny _ _ (Builtin.SmallTypes.nextOf (.ref i2) >>= _) _ _ _
  refine Ya (Zjh hA (((q2.ext m1.extBut D.i2z D.l2z).ext m2.extBut D.i12.symm D.l2i1).ext m3.extBut D.TOi2.symm D.l2TO) hy λg4 e m4 he=>?_)
  obtain⟨oe,e1,e2⟩:=he
  have z4:IsZip g4 z TI TO .ellipsis:=m4 _ _ D.i2z.symm (m3.extBut _ _ D.TOz.symm (m2.extBut _ _ D.i1z.symm z1))
  have nz:e≠z:=λq=>by subst q;rw[z4]at e1;cases e1;simp at e2
  exact wpAny_setField_rec z4 (by simp) λg5 _ m5=>hE g5 e (λc o c1 c2 c3 c4 q=>m5.extBut _ _ c1 (m4 _ _ c4 (m3.extBut _ _ c2 (m2.extBut _ _ c3 (m1.extBut _ _ c1 q))))) ⟨oe,m5.extBut _ _ nz e1,e2⟩
theorem ZkL {x y:Value}{Q:Option Value->Shared->Prop} (D:ZipApart z TI TO i1 i2 l1 l2) (hz:IsZip s.heap z TI TO .none) (hI:IsPair s.heap TI (.ref i1) (.ref i2)) (hO:IsPair s.heap TO a b)
  (q1:QIt s.heap i1 l1 k1 xs) (q2:QIt s.heap i2 l2 k2 ys) (hx:xs[k1]?=some x) (hy:ys[k2]?=some y)
  (hQ:∀h',IsZip h' z TI TO (rawInt s.heap.objs.size)->IsPair h' TO x y->QIt h' i1 l1 (k1+1) xs->QIt h' i2 l2 (k2+1) ys->IsPair h' s.heap.objs.size x y->ZkK z TO i1 i2 s.heap h'->Q (some (.ref s.heap.objs.size)) {s with heap:=h'}) :
  wpAny (model prog w) A (pyNext (.ref z)) Q E s:=by
 have ty:s.TypeIs (.ref z) "zip":=⟨_,hz,rfl⟩
 unfold pyNext
 exact Ya (wpAny_attempt (wpAny_callSpecial?_slot (name:=Str.ofString "__next__") ty F.slot_zip_next (wpAny_call_entry F.slot_zip_next ty F.entry_zip_next (Znv D hz hI hO q1 q2 hx hy λh' a1 a2 a3 a4 a5 a6=>Yc (hQ h' a1 a2 a3 a4 a5 a6)) (F.args_zip_next_1 _))))
theorem ZlL {Q:Option Value->Shared->Prop} (hA:A.handled=none) (D:ZipApart z TI TO i1 i2 l1 l2) (hz:IsZip s.heap z TI TO .none) (hI:IsPair s.heap TI (.ref i1) (.ref i2)) (hO:IsPair s.heap TO a b)
  (q1:QIt s.heap i1 l1 k1 xs) (q2:QIt s.heap i2 l2 k2 ys) (hend:xs[k1]?=none\/ys[k2]?=none) (hQ:∀h',ZkK z TO i1 i2 s.heap h'->Q none {s with heap:=h'}):wpAny (model prog w) A (pyNext (.ref z)) Q E s:=by
 have ty:s.TypeIs (.ref z) "zip":=⟨_,hz,rfl⟩
 unfold pyNext
 refine Ya (wpAny_attempt (wpAny_callSpecial?_slot (name:=Str.ofString "__next__") ty F.slot_zip_next (wpAny_call_entry F.slot_zip_next ty F.entry_zip_next (Zpo hA D hz hI hO q1 q2 hend λh' e hk he=>?_) (F.args_zip_next_1 _))))
 obtain⟨o,e1,e2⟩:=he
 exact Ya (wpAny_isInstance (T:="StopIteration") (b:=true) ⟨o,e1,e2⟩ isSubtype_stop (Yc (hQ _ hk)))
noncomputable def SqH (h:Heap) (l:Addr) (xs:Array Value):Prop:=h.IsList l xs\/h.IsTuple l xs
theorem SqH.push {h:Heap}{l:Addr}{xs:Array Value} (q:SqH h l xs) (o:Obj):SqH (h.push o) l xs:=by
 rcases q with q|⟨u,hu,r⟩
 ·exact .inl (q.push o)
 ·exact .inr ⟨u,Yi _ hu,r⟩
theorem SqH.obj {h:Heap}{l:Addr}{xs:Array Value} (q:SqH h l xs):∃o,h.get? l=some o:=by
 rcases q with⟨o,ho,_⟩|⟨o,ho,_⟩<;>exact⟨o,ho⟩
noncomputable def ZbA (h:Heap) (l:Addr):String:=match h.get? l with
 |some o=>if o.cls=.type "tuple" then "tuple_iterator" else "list_iterator"
 |none=>"list_iterator"
theorem iterQ {Q:Value->Shared->Prop} (q:SqH s.heap l1 xs) (h:Q (.ref s.heap.objs.size) {s with heap:=s.heap.push {cls:=.type (ZbA s.heap l1),data:=.fields #[.ref l1,.int 0 0]}}):wpAny (model prog w) A (pyIter (.ref l1)) Q E s:=by
 rcases q with q|q
 ·have e:ZbA s.heap l1="list_iterator":=by
   obtain⟨o,ho,hc,_⟩:=q
   unfold ZbA;rw[ho];dsimp only;rw[Yb (by rw[hc];intro z;injection z with z;exact absurd z (by decide))]
  rw[e]at h;exact wpAny_pyIter_list q h
 ·have e:ZbA s.heap l1="tuple_iterator":=by
   obtain⟨o,ho,hc,_⟩:=q
   unfold ZbA;rw[ho];dsimp only;rw[Yd hc]
  rw[e]at h;exact wpAny_pyIter_tuple q h
theorem itQ {h h':Heap}{i:Addr} (q:SqH h l1 xs) (ho:h'.get? i=some {cls:=.type (ZbA h l1),data:=.fields #[.ref l1,.int 0 0]}) (hl:∀o,h.get? l1=some o->h'.get? l1=some o):QIt h' i l1 0 xs:=by
 rcases q with q|q
 ·have e:ZbA h l1="list_iterator":=by
   obtain⟨o,ho,hc,_⟩:=q
   unfold ZbA;rw[ho];dsimp only;rw[Yb (by rw[hc];intro z;injection z with z;exact absurd z (by decide))]
  rw[e]at ho
  obtain⟨o,q1,r⟩:=q
  exact .inl ⟨⟨_,ho,rfl,rfl⟩,⟨o,hl _ q1,r⟩⟩
 ·have e:ZbA h l1="tuple_iterator":=by
   obtain⟨o,ho,hc,_⟩:=q
   unfold ZbA;rw[ho];dsimp only;rw[Yd hc]
  rw[e]at ho
  obtain⟨o,q1,r⟩:=q
  exact .inr ⟨⟨_,ho,rfl,rfl⟩,⟨o,hl _ q1,r⟩⟩
noncomputable abbrev zq1 (h:Heap) (l1:Addr):Heap:=h.push {cls:=.type (ZbA h l1),data:=.fields #[.ref l1,.int 0 0]}
noncomputable abbrev zq2 (h:Heap) (l1 l2:Addr):Heap:=(zq1 h l1).push {cls:=.type (ZbA (zq1 h l1) l2),data:=.fields #[.ref l2,.int 0 0]}
noncomputable abbrev zq3 (h:Heap) (l1 l2:Addr):Heap:=(zq2 h l1 l2).push {cls:=.type "tuple",data:=.seq #[.ref h.objs.size,.ref (zq1 h l1).objs.size]}
noncomputable abbrev zq4 (h:Heap) (l1 l2:Addr):Heap:=(zq3 h l1 l2).push {cls:=.type "tuple",data:=.seq #[.none,.none]}
noncomputable abbrev zq5 (h:Heap) (l1 l2:Addr):Heap:=(zq4 h l1 l2).push {cls:=.type "zip",data:=.fields #[.none,.bool false,.bool false,.ref (zq2 h l1 l2).objs.size,.ref (zq3 h l1 l2).objs.size]}
theorem ZlM (l1 l2:Addr) (xs ys:Array Value) :
  Meets (Builtin.«zip.__new__» ⟨[.type "zip",.ref l1,.ref l2],[]⟩) (λ_ R s=>SqH s.heap l1 xs/\SqH s.heap l2 ys/\R (.ok (.ret (.ref (zq4 s.heap l1 l2).objs.size))) {s with heap:=zq5 s.heap l1 l2}) :=
 .of_wp λprog w A R s h=>by
  obtain⟨hp,g,d,tk,os⟩:=s;obtain⟨b1,b2,h⟩:=h
  have hsub:=sub_zip
  have L1:SqH (Shared.heap ⟨hp,g,d,tk,os⟩) l1 xs:=b1
  have L2:SqH (Shared.heap ⟨zq1 hp l1,g,d,tk,os⟩) l2 ys:=SqH.push b2 _
  wp_walk using iterQ L1,iterQ L2
  exact⟨_,rfl,h⟩
theorem Znw {Q:Value->Shared->Prop} (b1:SqH s.heap l1 xs) (b2:SqH s.heap l2 ys)
  (h:∀h',IsZip h' (s.heap.objs.size+4) (s.heap.objs.size+2) (s.heap.objs.size+3) .none->IsPair h' (s.heap.objs.size+2) (.ref s.heap.objs.size) (.ref (s.heap.objs.size+1))->IsPair h' (s.heap.objs.size+3) .none .none ->
   QIt h' s.heap.objs.size l1 0 xs->QIt h' (s.heap.objs.size+1) l2 0 ys->(∀c o,s.heap.get? c=some o->h'.get? c=some o)->Q (.ref (s.heap.objs.size+4)) {s with heap:=h'}) :
  wpAny (model prog w) A (call (.type "zip") [.ref l1,.ref l2]) Q E s:=by
 refine callType_new F.called_zip (by decide) (F.typeCall_zip_2 _ _) (F.newCall_zip_2 _ _) (λobj=>F.args_object_init_3 obj _ _) F.entry_zip_new (ZlM l1 l2 xs ys) ⟨b1,b2,?_⟩
 have z1:(zq1 s.heap l1).objs.size=s.heap.objs.size+1:=Heap.size_push ..
 have z2:(zq2 s.heap l1 l2).objs.size=s.heap.objs.size+2:=by rw[Heap.size_push,z1]
 have z3:(zq3 s.heap l1 l2).objs.size=s.heap.objs.size+3:=by rw[Heap.size_push,z2]
 have z4:(zq4 s.heap l1 l2).objs.size=s.heap.objs.size+4:=by rw[Heap.size_push,z3]
 have g5:(zq5 s.heap l1 l2).get? (zq4 s.heap l1 l2).objs.size=some _:=Yv _ rfl
 have g4:(zq5 s.heap l1 l2).get? (zq3 s.heap l1 l2).objs.size=some _:=Yi _ (Yv _ rfl)
 have g3:(zq5 s.heap l1 l2).get? (zq2 s.heap l1 l2).objs.size=some _:=Yi _ (Yi _ (Yv _ rfl))
 have g2:(zq5 s.heap l1 l2).get? (zq1 s.heap l1).objs.size=some _:=Yi _ (Yi _ (Yi _ (Yv _ rfl)))
 have g1:(zq5 s.heap l1 l2).get? s.heap.objs.size=some _:=Yi _ (Yi _ (Yi _ (Yi _ (Yv _ rfl))))
 have up1:∀c o,(zq1 s.heap l1).get? c=some o->(zq5 s.heap l1 l2).get? c=some o:=λc o x=>Yi _ (Yi _ (Yi _ (Yi _ x)))
 have up:∀c o,s.heap.get? c=some o->(zq5 s.heap l1 l2).get? c=some o:=λc o x=>up1 c o (Yi _ x)
 have r1:=itQ b1 g1 λo e=>up _ o e
 have r2:=itQ (b2.push _) g2 λo e=>up1 _ o e
 show _/\_
 rw[z2,z3,z4]at g5
 rw[z1,z2]at g3
 rw[z3]at g4
 rw[z1]at r2
 rw[z4]
 exact⟨⟨_,g5,rfl⟩,h _ g5 g3 g4 r1 r2 up⟩
end
section
variable {X:Cx}{pins:List (Addr×Obj)}{σ:St}{H:Hp}{s:Shared}
noncomputable def SqB (K:Frag) (t:Bool) (H:Hp) (a:Addr) (xs:List V):Prop:=match t with
 |true=>SqT K H a xs
 |false=>SqL K H a xs
noncomputable def ItB (t:Bool) (h:Heap) (i a:Addr) (k:Nat):Prop:=match t with
 |true=>h.IsTupleIter i a k
 |false=>h.IsListIter i a k
theorem SqB.of {K:Frag}{H:Hp}{a:Addr}{xs:List V} (h:SqL K H a xs\/SqT K H a xs):∃t,SqB K t H a xs:=by
 rcases h with h|h
 ·exact⟨false,h⟩
 ·exact⟨true,h⟩
theorem Zg.Zed {K:Frag}{t:Bool}{H H':Hp}{a:Addr}{xs:List V} (e:Zg H H') (h:SqB K t H a xs):SqB K t H' a xs:=by
 cases t
 ·exact e.seq h
 ·exact e.seqT h
theorem ItB.keep {t:Bool}{h h':Heap}{i a:Addr}{k:Nat} (q:ItB t h i a k) (e:∀o,h.get? i=some o->h'.get? i=some o):ItB t h' i a k:=by
 cases t
 ·obtain⟨o,ho,r⟩:=q;exact⟨o,e o ho,r⟩
 ·obtain⟨o,ho,r⟩:=q;exact⟨o,e o ho,r⟩
theorem ItB.obj {t:Bool}{h:Heap}{i a:Addr}{k:Nat} (q:ItB t h i a k):∃o,h.get? i=some o/\∃v,o.data=.fields v:=by
 cases t
 ·obtain⟨o,ho,_,d⟩:=q;exact⟨o,ho,_,d⟩
 ·obtain⟨o,ho,_,d⟩:=q;exact⟨o,ho,_,d⟩
theorem Inv.sqb (I:Inv X pins σ H s) {t:Bool}{a:Addr}{xs:List V} (q:SqB X.K t H a xs):∃its:List Value,Vals xs its/\SqH s.heap a its.toArray/\∀i k,ItB t s.heap i a k->QIt s.heap i a k its.toArray:=by
 cases t
 ·obtain⟨its,r,p,_⟩:=I.list q;exact⟨its,r,.inl p.isList,λi k h=>.inl ⟨h,p.isList⟩⟩
 ·obtain⟨its,r,p,_⟩:=I.tuple q;exact⟨its,r,.inr p,λi k h=>.inr ⟨h,p⟩⟩
theorem Inv.itb (I:Inv X pins σ H s) {t:Bool}{a i:Addr}{xs:List V}{h':Heap}{k:Nat}{us:Array Value} (q:SqB X.K t H a xs) (kp:∀o,s.heap.get? a=some o->h'.get? a=some o) (u:QIt h' i a k us):ItB t h' i a k:=by
 cases t
 ·obtain⟨its,r,p,_⟩:=I.list q
  obtain⟨o,ho,hc,_⟩:=p.isList
  rcases u with⟨u,_⟩|⟨_,⟨o',ho',hc',_⟩⟩
  ·exact u
  ·rw[kp o ho]at ho'
   cases ho'
   rw[hc]at hc';injection hc' with z;exact absurd z (by decide)
 ·obtain⟨its,r,p,_⟩:=I.tuple q
  obtain⟨o,ho,hc,_⟩:=p
  rcases u with⟨_,⟨o',ho',hc',_⟩⟩|⟨u,_⟩
  ·rw[kp o ho]at ho'
   cases ho'
   rw[hc]at hc';injection hc' with z;exact absurd z (by decide)
  ·exact u
theorem Inv.ZmO (I:Inv X pins σ H s) {t:Bool}{a:Addr}{xs ys:List V} (q:SqB X.K t H a xs) (r:SqB X.K t H a ys):xs=ys:=by
 cases t
 ·exact I.ZcV q r
 ·exact I.Zi1 q r
noncomputable def Itzq (K : Frag) (t u : Bool) (a b : Addr) : It :=
  ⟨fun i H => ∃ xs ys x y, SqB K t H a xs ∧ SqB K u H b ys ∧ xs[i]? = some x ∧ ys[i]? = some y,
   fun i H v H' => ∃ p x y, H p = none ∧ v = .ref p ∧ H' = upd H p (.tup [x, y]) ∧ (∀ xs, SqB K t H a xs → xs[i]? = some x) ∧ ∀ ys, SqB K u H b ys → ys[i]? = some y,
   fun i H => ∃ xs ys, SqB K t H a xs ∧ SqB K u H b ys ∧ (xs.length ≤ i ∨ ys.length ≤ i)⟩
theorem Znx {P:Program}{w:World}{K:Frag}{elts:List Expr} {x1}{pos:Pos}{t u:Bool}{a b z TI TO i1 i2:Addr} (D:ZipApart z TI TO i1 i2 a b) :
  Turn P w K (.Tuple elts x1 pos) (Itzq K t u a b) [z,TI,TO,i1,i2] z (λi h=>IsZip h z TI TO .none/\IsPair h TI (.ref i1) (.ref i2)/\(∃u v,IsPair h TO u v)/\ItB t h i1 a i/\ItB u h i2 b i) where
 mem:=by simp
 obj:=λi h st c hc=>by
  obtain⟨q1,q2,⟨u,v,q3⟩,q4,q5⟩:=st
  simp at hc
  rcases hc with rfl|rfl|rfl|rfl|rfl
  ·exact⟨_,q1,λv z=>by cases z⟩
  ·exact⟨_,q2,λv z=>by cases z⟩
  ·exact⟨_,q3,λv z=>by cases z⟩
  ·obtain⟨o,ho,v,d⟩:=q4.obj;exact⟨_,ho,λv z=>by rw[d]at z;cases z⟩
  ·obtain⟨o,ho,v,d⟩:=q5.obj;exact⟨_,ho,λv z=>by rw[d]at z;cases z⟩
 keep:=λi h h' st k=>by
  obtain⟨q1,q2,⟨u,v,q3⟩,q4,q5⟩:=st
  exact⟨k z (by simp) _ q1,k TI (by simp) _ q2,⟨u,v,k TO (by simp) _ q3⟩,q4.keep λo e=>k i1 (by simp) o e,q5.keep λo e=>k i2 (by simp) o e⟩
 item:=by
  intro X hP hw hK hc i pins s σ H E I hf st hg
  subst hP hw hK
  obtain⟨xs,ys,x,y,qa,qb,hx,hy⟩:=hg
  obtain⟨q1,q2,⟨u0,v0,q3⟩,q4,q5⟩:=st
  obtain⟨is1,r1,p1,w1⟩:=I.sqb qa
  obtain⟨is2,r2,p2,w2⟩:=I.sqb qb
  obtain⟨u',hu,ru⟩:=r1.get hx
  obtain⟨v,hv,rv⟩:=r2.get hy
  have oa:=p1.obj
  have ob:=p2.obj
  refine ZkL D q1 q2 q3 (w1 _ _ q4) (w2 _ _ q5) (x:=u') (y:=v) (by simpa using hu) (by simpa using hv) λh' a1 a2 a3 a4 a5 a7=>?_
  refine⟨_,rfl,?_⟩
  refine wpAny_letOwnedTupleGo_zip (s:={s with heap:=h'}) a1 λh2 b1 b2=>?_
  have hfr:H s.heap.objs.size=none:=I.hok.fresh (Yf _)
  have I1:Inv X pins σ (upd H s.heap.objs.size (.tup [x,y])) {s with heap:=s.heap.push {cls:=.type "tuple",data:=.seq #[u',v]}}:=by
   refine I.laid (t':=s.toks) (λb u e=>Yi _ e) (Yf _) ?_
   exact⟨by show 2<=sizeLine;decide,[u',v],.cons ru (.cons rv .nil),⟨_,Yv _ rfl,rfl,_,rfl⟩⟩
  have nz:∀c∈[z,TI,TO,i1,i2],c≠s.heap.objs.size:=λc hc e=>by
   have:∃o,s.heap.get? c=some o:=by
    simp at hc
    rcases hc with rfl|rfl|rfl|rfl|rfl
    ·exact⟨_,q1⟩
    ·exact⟨_,q2⟩
    ·exact⟨_,q3⟩
    ·obtain⟨o,q,_⟩:=q4.obj;exact⟨o,q⟩
    ·obtain⟨o,q,_⟩:=q5.obj;exact⟨o,q⟩
   obtain⟨o,q⟩:=this
   exact absurd (Yj q) (by rw[e];exact YA _)
  have hf1:∀c∈[z,TI,TO,i1,i2],FpOk X pins (upd H s.heap.objs.size (.tup [x,y])) c:=λc hc=>by
   obtain⟨f0,f1,f2,f3,f4,f5⟩:=hf c hc
   exact⟨by rw[Zj (nz c hc)];exact f0,f1,f2,f3,f4,f5⟩
  have I2:Inv X pins σ (upd H s.heap.objs.size (.tup [x,y])) {s with heap:=h2}:=by
   refine Inv.ZjI (s:={s with heap:=s.heap.push {cls:=.type "tuple",data:=.seq #[u',v]}}) (t':=s.toks) (fp:=[z,TI,TO,i1,i2]) I1 (λc o hc e=>?_) hf1
   simp only[Ym,List.not_mem_nil,or_false,not_or]at hc
   obtain⟨c1,c2,c3,c4,c5⟩:=hc
   refine b2.extBut _ _ c1 ?_
   by_cases hs:c=s.heap.objs.size
   ·subst hs
    have e':(s.heap.push {cls:=.type "tuple",data:=.seq #[u',v]}).get? s.heap.objs.size=some _:=Yv _ rfl
    have ee:o={cls:=.type "tuple",data:=.seq #[u',v]}:=by
     have:=e.symm.trans e'
     exact YD this
    rw[ee];exact a5
   ·have:s.heap.get? c=some o:=by
     rcases Heap.get?_push_cases e with⟨q,_⟩|q
     ·exact absurd q hs
     ·exact q
    exact a7 c o c1 c3 c4 c5 this
  have ka:∀o,s.heap.get? a=some o->h'.get? a=some o:=λo e=>a7 a o D.l1z D.l1TO D.l1i1 D.l1i2 e
  have kb:∀o,s.heap.get? b=some o->h'.get? b=some o:=λo e=>a7 b o D.l2z D.l2TO D.l2i1 D.l2i2 e
  refine⟨.ref s.heap.objs.size,_,I2,rfl,⟨_,x,y,hfr,rfl,rfl,λxs' q'=>?_,λys' q'=>?_⟩,⟨b1,?_,⟨u',v,?_⟩,?_,?_⟩,λc hc=>(hf1 c hc).1⟩
  ·rw[I.ZmO q' qa];exact hx
  ·rw[I.ZmO q' qb];exact hy
  ·exact b2.extBut _ _ D.TIz (a7 _ _ D.TIz D.TITO D.TIi1 D.TIi2 q2)
  ·exact b2.extBut _ _ D.TOz a2
  ·exact(I.itb qa ka a3).keep λo e=>b2.extBut _ _ D.i1z e
  ·exact(I.itb qb kb a4).keep λo e=>b2.extBut _ _ D.i2z e
 done:=by
  intro X hP hw hK hc i pins s σ H E I hf st hg
  subst hP hw hK
  obtain⟨xs,ys,qa,qb,hx⟩:=hg
  obtain⟨q1,q2,⟨u0,v0,q3⟩,q4,q5⟩:=st
  obtain⟨is1,r1,p1,w1⟩:=I.sqb qa
  obtain⟨is2,r2,p2,w2⟩:=I.sqb qb
  refine ZlL (I.ok.hd hc) D q1 q2 q3 (w1 _ _ q4) (w2 _ _ q5) ?_ λh' k=>⟨rfl,I.ZjI (t':=s.toks) (fp:=[z,TI,TO,i1,i2]) (λc o hc e=>?_) hf⟩
  ·rcases hx with hx|hx
   ·left;simp;rw[<-r1.length];exact hx
   ·right;simp;rw[<-r2.length];exact hx
  ·simp only[Ym,List.not_mem_nil,or_false,not_or]at hc
   obtain⟨c1,c2,c3,c4,c5⟩:=hc
   exact k c o c1 c3 c4 c5 e
 self:=λ_ _ _ _ _ st h=>wpAny_pyIter_zip st.1 h
noncomputable def Zpp (K:Frag) (ta:TA):TI:=fun σ H R=>ta σ H λvs H1=>∃a b t u xs ys,vs=[.ref a,.ref b]/\SqB K t H1 a xs/\SqB K u H1 b ys/\R (Itzq K t u a b) H1
theorem ZjR {K:Frag}{elts:List Expr} {x1}{tp:Pos}{e1 e2:Expr}{ta:TA}{p pos:Pos} (hK:X.K=K) (hg:Gl X "zip") (hm:X.mg "zip"=none) (ha:PA X [e1,e2] ta) (he:starEach [e1,e2] X.env=(false,eval e1 X.env)::starEach [e2] X.env:=by rfl) (hpl:(backTo pos (starEach [e2] X.env)).any (·.1)=false:=by rfl) :
  PI X (.Tuple elts x1 tp) (.Call (.Name "zip" p) [e1,e2] [] pos) (Zpp K ta):=by
 subst hK
 intro pins s σ H R I h
 refine wpAny_Call_Name_kw (Zcw I hg hm Znf ?_)
 refine PyProof.Rows.callWith_type1 (thn (ha pos pins s σ H _ I h) λus s1 ⟨vs,H1,I1,r1,a,b,t,u,xs,ys,e1,qa,qb,q⟩=>?_) he hpl
 subst e1
 obtain⟨u',v,rfl,ru,rv⟩:=r1.two
 cases(show u'=Value.ref a from ru)
 cases(show v=Value.ref b from rv)
 obtain⟨is1,rr1,p1,_⟩:=I1.sqb qa
 obtain⟨is2,rr2,p2,_⟩:=I1.sqb qb
 refine Znw p1 p2 λh' c1 c2 c3 c4 c5 c7=>?_
 refine wpAny_pyIter_zip c1 ?_
 have l1:a<s1.heap.objs.size:=by obtain⟨o,e⟩:=p1.obj;exact Yj e
 have l2:b<s1.heap.objs.size:=by obtain⟨o,e⟩:=p2.obj;exact Yj e
 have sm:∀b,s1.heap.objs.size<=b->FpOk X pins H1 b:=λb hb=>I1.fpOk hb (I1.hok.fresh hb)
 refine⟨_,[s1.heap.objs.size+4,s1.heap.objs.size+2,s1.heap.objs.size+3,s1.heap.objs.size,s1.heap.objs.size+1],_,_,H1,rfl,I1.kept (t':=s1.toks) c7,Znx (t:=t) (u:=u) (a:=a) (b:=b) ?_,⟨c1,c2,⟨_,_,c3⟩,I1.itb qa (λo e=>c7 _ o e) c4,I1.itb qb (λo e=>c7 _ o e) c5⟩,λc hc=>?_,q⟩
 ·exact zapart _ _ _ l1 l2
 ·simp at hc
  rcases hc with rfl|rfl|rfl|rfl|rfl<;>exact sm _ (by omega)
end
theorem cut_m1 (xs:List V):Zcy xs (some (-1)) none=xs.drop (xs.length-1):=by
 unfold Zcy HT.sIx
 cases xs with
 |nil=>simp
 |cons x r =>
  simp
  have e:(-1+((r.length:Int)+1)).toNat=r.length:=by omega
  rw[e]
  exact List.take_of_length_le (by simp)
theorem ZmP {K:Frag}{Hx:Hp}{l q:Addr}{L:List Nat} (h1:Hx l=some (.lst (ZC L))) (h2:Hx q=some (.lst [])):EqD K Hx 3 (V.ref l) (V.ref q) (decide (L=[])):=by
 have hh:=ZmJ (n:=2) (K:=K) (H:=Hx) Zf0 (V.ref l) (V.ref q) (L.map λ(q:Nat)=>(q:Int)) [] (Zf1 (SqL.of (by rw[h1];simp[ZC,Function.comp_def]))) (Zf1 (ns:=[]) (SqL.of h2))
 have e:decide (L.map (λ(q:Nat)=>(q:Int))=[])=decide (L=[]):=by cases L<;>simp
 rw[e]at hh;exact hh
noncomputable def CDivL (i j:Int):Prop:=0<j/\j<18446744073709551616
theorem Zgb {X:Cx}:OpR X (binaryOp .FloorDiv) (rI CDivL λi j=>.int (i / j)):=opI λi j _ _ _ _ _ hc q=>by
 have h1:(0:Int)<j:=hc.1
 have h2:j<18446744073709551616:=hc.2
 refine floordiv_int (by omega) (by rw[Int.fdiv_eq_ediv_of_nonneg i (by omega)];exact q) (.inl (PyProof.noPylong_of_log2 ?_))
 have h3:j.natAbs<2 ^ 64:=by omega
 have:j.natAbs.log2<64:=(Nat.log2_lt (by omega)).mpr h3
 omega
end L2
namespace L2
theorem snoc_cases {α:Type} (xs:List α):xs=[]\/∃ys y,xs=ys++[y]:=by
 rcases List.eq_nil_or_concat xs with h|⟨ys,y,h⟩
 ·exact .inl h
 ·exact .inr ⟨ys,y,by rw[h,List.concat_eq_append]⟩
end L2
namespace L2
open PySem PySem.Spec PyProof.Rows PySem.W
end L2
namespace L2
open PySem PySem.Spec PyProof.Rows PySem.W
structure KindsOf (K:Frag) (mg:Str->Option Value) (C:Addr) (b:Nat->Bool):Prop where
 z:ExK K C
 k0:kitOne K (.ref C) (.ref (clsAt mg "Unlike"))=some (b 0)
 k1:kitOne K (.ref C) (.ref (clsAt mg "Empty"))=some (b 1)
 k2:kitOne K (.ref C) (.ref (clsAt mg "TooMany"))=some (b 2)
 k3:kitOne K (.ref C) (.ref (clsAt mg "NoTree"))=some (b 3)
 k4:kitOne K (.ref C) (.ref (clsAt mg "NoTelling"))=some (b 4)
 k5:kitOne K (.ref C) (.ref (clsAt mg "NoPlace"))=some (b 5)
 k6:kitOne K (.ref C) (.ref (clsAt mg "NoNumber"))=some (b 6)
 k7:kitOne K (.ref C) (.ref (clsAt mg "NoPast"))=some (b 7)
 k8:kitOne K (.ref C) (.ref (clsAt mg "NoText"))=some (b 8)
 k9:kitOne K (.ref C) (.ref (clsAt mg "NoLine"))=some (b 9)
 kd:kitOne K (.ref C) (.ref (clsAt mg "DipError"))=some true
 kv:kitOne K (.ref C) (.type "ValueError")=some true
noncomputable def ZjS (H:Hp) (l:Addr) (rs:List (List Int)):Prop:=∃as:List Addr,H l=some (.lst (as.map V.ref))/\as.length=rs.length/\∀i (h1:i<as.length) (h2:i<rs.length),H as[i]=some (.tup (rs[i].map V.int))
noncomputable def Once (k:Nat) (ss ls:List Int):Prop:=ss=((List.range k).map λ(j:Nat)=>(j:Int)).filter (λj=>decide (j∉ls))/\ls=((List.range k).map λ(j:Nat)=>(j:Int)).filter (λj=>decide (j∈ls))
noncomputable instance (k:Nat) (ss ls:List Int):Decidable (Once k ss ls):=inferInstanceAs (Decidable (_/\_))
section
variable {N:Nat}{k:Nat->Int}{cmp:Nat->Nat->(Bool->Shared->Prop)->Shared->Prop}{s:Shared}{p:Array Nat}
noncomputable def kk (k:Nat->Int) (p:Array Nat) (i:Nat):Int:=k (p.getD i 0)
noncomputable def SoT (k:Nat->Int) (p:Array Nat) (m:Nat):Prop:=∀i j,i<=j->j<m->kk k p i<=kk k p j
noncomputable def Bd (N:Nat) (p:Array Nat):Prop:=p.Perm (List.range N).toArray
theorem Bd.size (h:Bd N p):p.size=N:=by
 have:=(Array.perm_iff_toList_perm.mp h).length_eq
 simpa using this
theorem Bd.lt (h:Bd N p) (hN:0<N) (i:Nat):p.getD i 0<N:=by
 rw[Array.getD_eq_getD_getElem?]
 by_cases hi:i<p.size
 ·rw[getElem?_pos p i hi]
  have:=(Array.Perm.mem_iff h (a:=p[i])).mp (Array.getElem_mem hi)
  simpa using this
 ·rw[getElem?_neg p i hi];exact hN
noncomputable def Zpq (N:Nat) (k:Nat->Int) (cmp:Nat->Nat->(Bool->Shared->Prop)->Shared->Prop) (s:Shared):Prop:=∀i j C,i<N->j<N->C (decide (k i<k j)) s->cmp i j C s
end
section
variable {prog:Program}{w:World}{E:Value->Shared->Prop}{s:Shared}
noncomputable def Zg5 (vs:List Value) (p:Array Nat):Array Value:=List.toArray (p.toList.map λi=>vs.getD i Value.none)
noncomputable def Pr (h:Heap) (v:Value) (x y:Int):Prop:=∃a o n t u,v=.ref a/\h.get? a=some o/\o.cls=.type "tuple"/\o.data=.seq #[.int x t,.int y u] n
theorem Pr.keep {h h':Heap}{v:Value}{x y:Int} (p:Pr h v x y) (k:∀b o,h.get? b=some o->h'.get? b=some o):Pr h' v x y:=by
 obtain⟨a,o,n,t,u,e,g,r⟩:=p
 exact⟨a,o,n,t,u,e,k _ _ g,r⟩
theorem ZmQ {h:Heap}:∀{vs:List Value},(∀v∈vs,∃x y,Pr h v x y)->∃fs,KatTups h vs fs/\fs.length=vs.length/\∀f∈fs,∃x t,f=Value.int x t
 |[],_=>⟨[],trivial,rfl,λf hf=>by cases hf⟩
 |v::vs,hv=>by
  obtain⟨fs,h1,h2,h3⟩:=ZmQ (λu hu=>hv u (Yz _ hu))
  obtain⟨x,y,a,o,n,t,u,rfl,e,c,d⟩:=hv v Yx
  refine⟨.int x t::fs,KatTups.cons e c d rfl h1,by simp[h2],λf hf=>?_⟩
  rcases Ym.mp hf with rfl|hf
  ·exact⟨x,t,rfl⟩
  ·exact h3 f hf
theorem ZlN {A:Around}{vs:List Value}{Q:SortKind->Shared->Prop} (h2:2<=vs.length) (hv:∀v∈vs,∃x y,Pr s.heap v x y) (h:Q (tuples' true) s):wpAny (model prog w) A (keyKind' vs.toArray) Q E s:=by
 obtain⟨fs,h1,hl,h3⟩:=ZmQ hv
 refine kat_kind h1 (by omega) (T:=.type "int") (λf hf=>?_) (by decide) ?_
 ·obtain⟨x,t,rfl⟩:=h3 f hf
  exact .now
 ·rw[show(Value.type "int" != Value.type "tuple")=true by decide];exact h
theorem Zpr {A:Around}{v v':Value}{x y x' y':Int}{C:Bool->Shared->Prop} (p:Pr s.heap v x y) (p':Pr s.heap v' x' y') (h:C (decide (x<x'\/(x=x'/\y<y'))) s):wpAny (model prog w) A (keyLt' (tuples' true) v v') C E s:=by
 obtain⟨a,o,n,t,u,rfl,e,c,d⟩:=p
 obtain⟨a',o',n',t',u',rfl,e',c',d'⟩:=p'
 refine kat_lt e d e' d' ?_
 show KatLex prog w A true _ C [(.int x t,.int x' t'),(.int y u,.int y' u')] 0 s
 refine kat_cons (wpAny_eqBool_int ?_)
 by_cases ex:x=x'
 ·rw[show(x==x')=true from beq_iff_eq.mpr ex]
  refine kat_yes (kat_cons (wpAny_eqBool_int ?_))
  by_cases ey:y=y'
  ·rw[show(y==y')=true from beq_iff_eq.mpr ey]
   refine kat_yes (kat_nil ?_)
   have:decide (x<x'\/(x=x'/\y<y'))=false:=YJ (by omega)
   rw[this]at h
   exact h
  ·rw[show(y==y')=false from beq_eq_false_iff_ne.mpr ey]
   refine kat_no (kat_one _ _ (PyProof.Rows.lt_int (show C (decide (y<y')) s from ?_)))
   have:decide (x<x'\/(x=x'/\y<y'))=decide (y<y'):=decide_eq_decide.mpr (by omega)
   rw[this]at h
   exact h
 ·rw[show(x==x')=false from beq_eq_false_iff_ne.mpr ex]
  refine kat_no (oneLt_int ?_)
  have:decide (x<x'\/(x=x'/\y<y'))=decide (x<x'):=decide_eq_decide.mpr (by omega)
  rw[this]at h
  exact h
end
section
variable {X:Cx}
noncomputable def Zeu (r:List Int):Int:=r.getD 0 0*100000+r.getD 1 0
end
end L2
namespace L2
open PySem PySem.Spec PyProof.Rows PySem.W
end L2
namespace L2
noncomputable def Ok:Nat->List Nat->Prop
 |_,[]=>True
 |st,d::ds=>d<=st/\Ok (st-d+1) ds
end L2
namespace L2
open PySem PySem.Spec PyProof.Rows PySem.W
end L2
namespace L2
open PySem PySem.Spec PyProof.Rows PySem.W
end L2
namespace L2
open PySem PySem.Spec PyProof.Rows
end L2
namespace L2
open PySem PySem.Spec PyProof.Rows PySem.W PySem.Calls
end L2
namespace L2
open PySem PySem.Spec PyProof.Rows PySem.W
section
variable {X:Cx}
noncomputable def rSlV:V->Option Int->Option Int->Hp->VK->Prop:=λx lo hi H Q=>∃a xs,x=.ref a/\H a=some (.tup xs)/\∀p H',Zg H H'->H' p=some (.tup (Zcy xs lo hi))->Q (.ref p) H'
theorem sl_v {K:Frag} (hK:X.K=K):SlR X rSlV:=by
 intro pins s σ H x v vl vu lo hi sl Q I rx hs pl pu h
 obtain⟨a,xs,rfl,hx,q⟩:=h
 refine sl_q hK pins s σ H _ v vl vu lo hi sl Q I rx hs pl pu ⟨a,xs,rfl,.inr ⟨SqT.of hx,λhw=>?_,λ_ p hp=>?_⟩⟩
 ·exact q a H (Zg.refl H) (by rw[Znp hw];exact hx)
 ·exact q p _ ((Zg.refl H).upd hp) Zc
noncomputable def Zps (K:Frag):R2:=λx y H Q=>∃(a b:Addr) (xs ys:List V),x=.ref a/\y=.ref b/\SqL K H a xs/\SqL K H b ys/\xs.length+ys.length<=sizeLine/\∀p,H p=none->Q (.ref p) (upd H p (.lst (xs++ys)))
theorem ZjT {K:Frag} (hK:X.K=K):OpR X (binaryOp .Add) (Zps K):=by
 subst hK
 intro pins s σ H x y v u Q I rx ry h
 obtain⟨a,b,xs,ys,rfl,rfl,ha,hb,hz,q⟩:=h
 cases rx
 cases ry
 obtain⟨its,r1,p1,_⟩:=I.list ha
 obtain⟨its2,r2,p2,_⟩:=I.list hb
 obtain⟨⟨c1,d1,x1,l1⟩,e1,k1,n1,y1⟩:=p1.isList
 obtain⟨⟨c2,d2,x2,l2⟩,e2,k2,n2,y2⟩:=p2.isList
 simp only at k1 y1 k2 y2
 subst k1 y1 k2 y2
 refine concat_meets ⟨_,e1,rfl⟩ ⟨_,e2,rfl⟩ noFill_list_add seq_list_add PySem.F.slot_list_add PySem.F.entry_list_add (PySem.F.args_list_add_2 _ _) (list_addW a b its.toArray its2.toArray n1 n2 d1 d2 l1 l2 (by rw[Yr,Yr,<-r1.length,<-r2.length];exact hz)) ⟨e1,e2,?_⟩
 have ea:its.toArray++its2.toArray=(its++its2).toArray:=by simp
 rw[ea]
 exact⟨.ref _,_,I.lnew (t':=s.toks) (r1.append r2) (by rw[YL];exact hz),rfl,q _ I.fresh⟩
end
noncomputable def sF (r:Addr) (f:Int) (t:Addr):List (Str×V):=putF "tree" (.ref t) (putF "first" (.int f) (putF "row" (.ref r) []))
noncomputable def up1 (e:Int):Int:=if e<0 then e else e+1
noncomputable abbrev itO (l:Addr):Obj:={cls:=.type "list_iterator",data:=.fields #[.ref l,.int 0 0]}
noncomputable abbrev zA (h:Heap) (a:Addr):Heap:=h.push (itO a)
noncomputable abbrev zB (h:Heap) (a b:Addr):Heap:=(zA h a).push (itO b)
section
variable {X:Cx}
theorem pe_bmK {K:Frag}{T:String}{id:String}{name:Str}{r:V->List V->Hp->VK->Prop}{o e:Expr}{es:List Expr}{to:TE}{t:TA}{apos cpos:Pos} (hK:X.K=K) (pa:PlainAttrs T) (slot:Slot T name id) (hty:typeOf (.builtin id)=pure (.type "method_descriptor")) (hm:MtM X id r) (ho:PE X o to) (ha:PA X (e::es) t)
  (hbase:attributeBase o name X.env (eval o X.env)=eval o X.env:=by rfl)
  (hfew:((backTo cpos (starEach (e::es) X.env)).all (λx=>!x.1)&&(backToKw cpos (keywordEach [] X.env)).all (λx=>x.1.isSome)
   && decide ((e::es).length+([]:List Keyword).length+(if ([]:List Keyword).isEmpty then 0 else 1)<30))=true:=by rfl)
  (hline:(apos.endLine==cpos.line)=true:=by rfl) (hs:starEach (e::es) X.env=(false,eval e X.env)::starEach es X.env:=by rfl) (hplain:(backTo cpos (starEach es X.env)).any (·.1)=false:=by rfl) :
  PE X (.Call (.Attribute o name apos) (e::es) [] cpos) (tBM K T r to t):=by
 subst hK
 exact Zd7 pa slot hty hm ho ha hbase hfew hline hs hplain
end
end L2
namespace L2
open PySem PySem.Spec PyProof.Rows PySem.W PySem.Calls
end L2
namespace L2
open PySem PySem.Spec PyProof.Rows PySem.W
noncomputable def Zny (K:Frag) (f:Addr):Option Addr:=match K.lookup f with
 |some ⟨_,_,.func fd,_⟩=>(match fd.code with|.ref c=>some c|_=>none)
 |_=>none
noncomputable def tabOf (K:Frag) (c:Addr):Addr:=match K.lookup c with
 |some ⟨_,_,.fields vs,_⟩=>(match (vs[11]?:Option Value)with|some (.ref P)=>P|_=>0)
 |_=>0
noncomputable def ZhL (K:Frag) (mg:Str->Option Value) (x:Str):Addr:=match mg x with
 |some (.ref f)=>(match Zny K f with|some c=>tabOf K c|none=>0)
 |_=>0
noncomputable def ZhM (q:Str):HO:=.tbl #[.str q 0]
noncomputable def BM (mg:Str->Option Value) (base:Heap):Prop :=
 ∃bm o,mg "__builtins__"=some (.ref bm)/\bm≠builtinsNs/\bm≠mainGlobals/\base.get? bm=some o/\o.cls=.type "module"/\o.dict=some builtinsNs/\o.data=.plain
noncomputable def ZkM (env:Env) (P:Addr) (q:Str) (params:Arguments) (body:Expr) (scope:Scope) (H:Hp) (f:Addr):Prop :=
 ∃c oc vs t cl pm ctv,H f=some (.frz (kla_obj "<lambda>" q params body scope cl pm c ctv) (.own f))/\H c=some (.frz oc (.own P))/\oc.data=.fields vs/\vs[1]?=some (.str q t) /\
  (∀x c,cl.lookup x=some c->env.cells.lookup x=some c)/\(∀y∈scope.names,y.2=.free->∃c,cl.lookup y.1=some c/\env.cells.lookup y.1=some c)
theorem ZkM.same {env:Env}{P:Addr}{q:Str}{params:Arguments}{body:Expr}{scope:Scope}{H H':Hp}{f:Addr} (h:ZkM env P q params body scope H f) (s:Zg H H'):ZkM env P q params body scope H' f:=by
 obtain⟨c,oc,vs,t,cl,pm,ctv,e1,e2,r⟩:=h
 exact⟨c,oc,vs,t,cl,pm,ctv,s _ _ e1,s _ _ e2,r⟩
structure LamIn (X:Cx) (P:Addr) (q:Str):Prop where
 code:∃c,X.env.code=.ref c/\codeHdIn X.K c P=true
 bm:BM X.mg X.base
 ql:X.env.qual++"<lambda>"=q
theorem ZlO {pos:Pos}{a b:Int}{c cv:Value}:∀(l:List Value),TriplesOk l->codeAmong pos (l++[rawInt a,rawInt b,c])=some cv->codeAmong pos l=some cv\/cv=c:=by
 intro l h e
 fun_induction TriplesOk l with
 |case1 =>
  simp only[List.nil_append,codeAmong,rawInt]at e
  split at e
  ·cases e;exact .inr rfl
  ·cases e
 |case2 a' t b' u x rest ih =>
  simp only[List.cons_append,codeAmong]at e⊢
  split at e
  ·rename_i hc;rw[Yd hc];exact .inl e
  ·rename_i hc;rw[Yb hc];exact ih h e
 |case3 l h1 h2=>exact h.elim
section
variable {X:Cx}
theorem Inv.lam {pins:List (Addr×Obj)}{σ:St}{H:Hp}{s:Shared}{h':Heap}{t':Nat}{P c f:Addr}{q:Str}{oc fo:Obj}{ts:Array Value}{vs:Array Value}{tq:Tok}
  (I:Inv X pins σ H s) (hP:H P=some (ZhM q)) (k:∀b o,b≠P->s.heap.get? b=some o->h'.get? b=some o) (hts:h'.get? P=some (tabObj ts)) (h3:TriplesOk ts.toList)
  (hc:H c=some (.frz oc (.own P))\/s.heap.objs.size<=c) (hcP:c≠P) (hoc:h'.get? c=some oc) (hd:oc.data=.fields vs) (hv:vs[1]?=some (.str q tq)) (hf:s.heap.objs.size<=f) (hfc:f≠c) (hfo:h'.get? f=some fo)
  (hcodes:∀pos cv,codeAmong pos ts.toList=some cv->cv=.ref c\/∃c2 oc vs t t',cv=.ref c2/\H c2=some (.frz oc (.own P))/\oc.data=.fields vs/\vs[1]?=some (.str q t)/\t'=(0:Tok)) :
  Inv X pins σ (upd (upd H c (.frz oc (.own P))) f (.frz fo (.own f))) {s with heap:=h',toks:=t'}:=by
 have hPlt:P<s.heap.objs.size:=I.hok.lt hP
 have hfP:f≠P:=λz=>by rw[z]at hf;exact absurd (Ys hPlt hf) (YA _)
 have hfn:H f=none:=I.hok.fresh hf
 have up:∀b o,H b=some o->upd (upd H c (.frz oc (.own P))) f (.frz fo (.own f)) b=some o:=λb o e=>by
  have nf:b≠f:=Zv e hfn
  rw[Zj nf]
  rcases hc with hc|hc
  ·by_cases z:b=c
   ·subst z;rw[Zc,<-e,hc]
   ·rw[Zj z];exact e
  ·rw[Zj (Zv e (I.hok.fresh hc))];exact e
 have un:Un X.fs [] H (upd (upd H c (.frz oc (.own P))) f (.frz fo (.own f))) s.heap h':=by
  have nP:∀b,H b=none->b≠P:=λb n z=>by rw[z,hP]at n;cases n
  refine⟨λb o e n _ _=>k b o (nP b n) e,λb o e n _ _=>⟨o.slots,k b o (nP b n) e⟩,λb o e n _=>?_,λb o e _=>?_,λb xs e=>up _ _ e,λb o u e=>up _ _ e,λb ps e=>⟨#[],by rw[up _ _ e];simp⟩⟩
  ·have lt:=Yj e
   have nf:b≠f:=λz=>by rw[z]at lt;exact absurd (Ys lt hf) (YA _)
   have nc:b≠c:=λz=>by
    rcases hc with hc|hc
    ·rw[z,hc]at n;cases n
    ·rw[z]at lt;exact absurd (Ys lt hc) (YA _)
   rw[Zj nf,Zj nc];exact n
  ·by_cases z:b=P
   ·subst z;exact⟨_,hts⟩
   ·exact⟨o,k b o z e⟩
 refine I.un un λb o e=>?_
 by_cases zf:b=f
 ·subst zf
  rw[Zc]at e;cases e
  exact⟨hfo,_,hfo⟩
 rw[Zj zf]at e
 by_cases zc:b=c
 ·subst zc
  rw[Zc]at e;cases e
  exact⟨hoc,_,hoc⟩
 rw[Zj zc]at e
 by_cases zP:b=P
 ·subst zP
  rw[hP]at e;cases e
  refine⟨ts,hts,h3,λpos cv hcv=>?_⟩
  rcases hcodes pos cv hcv with rfl|⟨c2,oc2,vs2,t2,t2',e1,e2,e3,e4,_⟩
  ·exact⟨c,oc,vs,q,0,tq,rfl,by rw[Zj (Ne.symm hfc),Zc],hd,rfl,hv⟩
  ·exact⟨c2,oc2,vs2,q,0,t2,e1,up _ _ e2,e3,rfl,e4⟩
 ·refine(I.hok b o e).ZfQ (λb2 u hb z=>k b2 u ?_ z) (λb2 z=>up _ _ z) (λb2 xs z=>up _ _ z) λb2 o2 u2 z=>up _ _ z
  rcases hb with rfl|hb
  ·exact zP
  ·intro z;rw[z,hP]at hb;cases hb
noncomputable def tLam (env:Env) (P:Addr) (q:Str) (params:Arguments) (body:Expr) (scope:Scope):TE:=λ_ H Q=>H P=some (ZhM q)/\∀f H',H f=none->Zg H H'->ZkM env P q params body scope H' f->Q (.ref f) H'
theorem Zpt {P:Addr}{q:Str}{params:Arguments}{body:Expr}{scope:Scope}{pos:Pos} (L:LamIn X P q) (hok:compOk X.env.scope scope=true) (hdef:defaultsOf params X.env=([],[]):=by rfl) :
  PE X (.Lambda params body scope pos) (tLam X.env P q params body scope):=by
 intro pins s σ H Q I h
 obtain⟨hP,h⟩:=h
 obtain⟨c0,hc0,hcd⟩:=L.code
 have C:CodeHd s.heap c0 P:=codeHd_of_K I.kIn hcd
 obtain⟨bm,ob,b1,b2,b3,b4,b5,b6,b7⟩:=L.bm
 have hbm:=I.bs bm ob b4
 have bP:bm≠P:=λz=>by rw[z,hP]at hbm;cases hbm.2
 have gP:mainGlobals≠P:=λz=>by
  obtain⟨o,es,ep,e,_⟩:=I.ok.mod.glob
  have:=(I.bs _ _ e).2
  rw[z,hP]at this;cases this
 have hg:s.heap.Ns mainGlobals X.mg:=I.ok.mod.glob.keeps I.bk
 have hb:s.heap.BuiltinsAt X.mg P:=⟨bm,ob,b1,b2,b3,bP,hbm.1,b5,b6,b7⟩
 obtain⟨ts,hts,h3,hco⟩:=I.hok P _ hP
 obtain⟨cl,hcl,up,hfr⟩:=ZhA (env:=X.env) (scope:=scope) λy hy hf=>I.ok.has y.1 ((Zcq hok y hy hf).elim (λz=>.inl z) λz=>.inr z)
 have hco':∀pos cv,codeAmong pos ts.toList=some cv->∃c2 oc vs t t',cv=.ref c2/\H c2=some (.frz oc (.own P))/\oc.data=.fields vs/\vs[1]?=some (.str q t)/\t'=(0:Tok):=λpos cv e=>by
  obtain⟨c,oc,vs,q',t,t',e1,e2,e3,e4,e5⟩:=hco pos cv e
  have e4':some (Value.str q (0:Tok))=some (Value.str q' t):=e4
  cases e4'
  exact⟨c,oc,vs,t',0,e1,e2,e3,e5,rfl⟩
 refine kla_eval hdef ?_
 rw[L.ql]
 cases hca:codeAmong pos ts.toList with
 |some cv =>
  obtain⟨c,oc,vs,tq,t',rfl,e2,e3,e4,_⟩:=hco' pos cv hca
  refine kla_makeFunctionHit (mg:=X.mg) hcl I.ok.glob hg hc0 C hts h3 hca hb λctv h' tk hk hsz=>?_
  have hoc:s.heap.get? c=some oc:=(I.hok c _ e2).1
  have hcP:c≠P:=λz=>by rw[z,hP]at e2;cases e2
  have lt:=Yj hoc
  have kk:∀b o,s.heap.get? b=some o->(h'.push {cls:=.type "function",data:=.func (kla_fn "<lambda>" q params body scope cl ((X.mg "__name__").getD .none) (.ref c) ctv)}).get? b=some o:=λb o e=>Yi _ (hk b o e)
  have J:=I.lam (t':=tk) (f:=h'.objs.size) hP (λb o _ e=>kk b o e) (kk _ _ hts) h3 (.inl e2) hcP (kk _ _ hoc) e3 e4 hsz (λz=>by rw[<-z]at lt;exact absurd (Ys lt hsz) (YA _)) (Yv _ rfl) λp2 cv2 z=>.inr (hco' p2 cv2 z)
  have hfn:H h'.objs.size=none:=I.hok.fresh hsz
  have ne:c≠h'.objs.size:=Yo (Ys lt hsz)
  refine⟨.ref h'.objs.size,_,J,rfl,h _ _ hfn (λb o e=>?_) ⟨c,oc,vs,tq,cl,_,ctv,Zc,by rw[Zj ne,Zc],e3,e4,up,hfr⟩⟩
  rw[Zj (Zv e hfn)]
  by_cases z:b=c
  ·subst z;rw[Zc,<-e,e2]
  ·rw[Zj z];exact e
 |none =>
  refine kla_makeFunction (mg:=X.mg) hcl I.ok.glob hg hc0 C hts h3 hca gP hb λc ctv h' tk hx hge hlt hrec htb=>?_
  obtain⟨c2,oc,vs,tq,e2,hoc,e3,e4⟩:=hrec
  cases e2
  have hsz:s.heap.objs.size<=h'.objs.size:=Yn hge (YW hlt)
  have kk:∀b o,h'.get? b=some o->(h'.push (kla_obj "<lambda>" q params body scope cl ((X.mg "__name__").getD .none) c ctv)).get? b=some o:=λb o e=>Yi _ e
  have hPlt:P<s.heap.objs.size:=I.hok.lt hP
  have hcP:c≠P:=λz=>by rw[z]at hge;exact absurd (Ys hPlt hge) (YA _)
  have tl:(ts++#[rawInt pos.line,rawInt pos.col,Value.ref c]).toList=ts.toList++[rawInt pos.line,rawInt pos.col,Value.ref c]:=by simp
  have J:=I.lam (t':=tk) (f:=h'.objs.size) (ts:=ts++#[rawInt pos.line,rawInt pos.col,.ref c]) hP (λb o nb e=>kk b o (hx b o nb e)) (kk _ _ htb) (by rw[tl];exact TriplesOk_snoc _ _ _ _ h3) (.inr hge) hcP (kk _ _ hoc) e3 e4 hsz (Nat.ne_of_gt hlt) (Yv _ rfl) λp2 cv2 z=>by
   rw[tl]at z
   rcases ZlO ts.toList h3 z with y|y
   ·exact .inr (hco' p2 cv2 y)
   ·exact .inl y
  have hfn:H h'.objs.size=none:=I.hok.fresh hsz
  have hcn:H c=none:=I.hok.fresh hge
  refine⟨.ref h'.objs.size,_,J,rfl,h _ _ hfn (λb o e=>?_) ⟨c,oc,vs,tq,cl,_,ctv,Zc,by rw[Zj (Yo hlt),Zc],e3,e4,up,hfr⟩⟩
  rw[Zj (Zv e hfn),Zj (Zv e hcn)];exact e
end
noncomputable def Zji (X:Cx) (A':Around) (Nc:List Str) (q:Str) (scope:Scope) (cl:List (Str×Addr)) (L f c:Addr) (s:Shared) (H:Hp):Cx where
 prog:=X.prog
 w:=X.w
 K:=X.K
 mg:=X.mg
 base:=X.base
 A:=A'.deeper (envX q scope L f (.ref c) cl)
 N:=Nc
 s₀:=s
 H₀:=H
 env:=envX q scope L f (.ref c) cl
 outer:=X.stack
 stack:=envX q scope L f (.ref c) cl::X.stack
 ex:=[]
 fn:=λ_=>false
 calm:=X.calm
 pn:=[]
 xe:=λ_ _=>False
section
variable {X:Cx}
theorem Znz {pins:List (Addr×Obj)}{σ:St}{H:Hp}{s:Shared}{A':Around}{Nc:List Str}{js:List (Option Nat)}{q pn:Str}{scope:Scope}{cl:List (Str×Addr)}{h1:Heap}{tk:Nat}{f c:Addr}{v:V}{u:Value}
  (I:Inv X pins σ H s) (hA:A'.frames=some X.stack) (hh:X.calm=true->A'.handled=none) (hok:compOk X.env.scope scope=true) (htk:takesC X.N Nc scope js 0=true) (hp0:Nc[0]?=some pn) (hj0:js[0]?=some none) (hpl:scope.names.lookup pn=some .local)
  (up:∀x c,cl.lookup x=some c->X.env.cells.lookup x=some c) (hfr:∀y∈scope.names,y.2=.free->∃c,cl.lookup y.1=some c/\X.env.cells.lookup y.1=some c)
  (r:RelV v u) (old:∀b o,s.heap.get? b=some o->h1.get? b=some o) (hns:h1.Ns s.heap.objs.size λy=>[(pn,u)].reverse.lookup y) :
  Inv (Zji X A' Nc q scope cl s.heap.objs.size f c s H) [] ((ZW js σ).set 0 (some v)) H {s with heap:=h1,toks:=tk}:=by
 have noA:∀b:Addr,b∉(Zji X A' Nc q scope cl s.heap.objs.size f c s H).ex:=λb z=>absurd (show b∈([]:List Addr)from z) (by simp)
 have kf:∀x,((envX q scope s.heap.objs.size f (.ref c) cl).kindOf x=some .cell\/(envX q scope s.heap.objs.size f (.ref c) cl).kindOf x=some .free)->∃c,cl.lookup x=some c:=λx hx=>by
  rcases hx with z|z
  ·exact absurd rfl (Zcp hok _ (lookup_mem (show scope.names.lookup x=some .cell from z)))
  ·obtain⟨c,q,_⟩:=hfr _ (lookup_mem (show scope.names.lookup x=some .free from z)) rfl
   exact⟨c,q⟩
 refine⟨⟨I.ok.mod,Zco hok,rfl,rfl,Yf _,λx y c e1 e2=>I.ok.inj x y c (up _ _ e1) (up _ _ e2),λx hx=>kf x hx,(λx c e=>nomatch e),hh,Around.frames_deeper hA,.inr ⟨rfl,rfl⟩,λb z=>absurd z (noA b),I.bs,Yn I.ok.bsz I.sz,λb _ _=>noA b,λb z=>absurd z (noA b),I.stack,I.ZfR⟩,
  rfl,I.bare,Un.kept old,⟨_,hns,λi x v' e1 e2 e3=>?_⟩,λx c e=>?_,I.hok.fresh (Yf _),λx c e=>I.freeC x c (up _ _ e),λp hp=>absurd (show p∈([]:List (Addr×Obj))from hp) (by simp),I.hok.kept old,?_⟩
 ·by_cases hi:i=0
  ·subst hi
   have ex:x=pn:=YD ((show Nc[0]?=some x from e1).symm.trans hp0)
   subst ex
   have hl:0<(ZW js σ).length:=by
    unfold ZW
    rw[Yl]
    exact(Yw.mp hj0).1
   rw[List.getElem?_set_self hl]at e2
   cases e2
   exact⟨u,r,.inl ⟨hpl,by simp⟩⟩
  ·rw[List.getElem?_set_ne (Ne.symm hi)]at e2
   have e2':(ZW js σ)[i]?=some (some v'):=e2
   unfold ZW at e2'
   rw[YH]at e2'
   cases hq:js[i]? with
   |none=>rw[hq]at e2';cases e2'
   |some j0 =>
    cases j0 with
    |none=>rw[hq]at e2';cases e2'
    |some j =>
     rw[hq]at e2'
     simp only[Option.map_some,Option.some.injEq]at e2'
     have e4:σ[j]?=some (some v'):=by
      cases z:σ[j]? with
      |none=>rw[z]at e2';cases e2'
      |some o=>rw[z]at e2';simp only[Option.join_some]at e2';rw[e2']
     obtain⟨y,y1,y2,y3⟩:=ZcY htk hq
     rw[Nat.zero_add]at y1
     have:x=y:=YD ((show Nc[i]?=some x from e1).symm.trans y1)
     subst this
     have hm:=lookup_mem y3
     obtain⟨c1,h1',h2'⟩:=hfr _ hm rfl
     have hk:=Zcq hok _ hm rfl
     obtain⟨m0,hn0,hl0⟩:=I.loc
     obtain⟨u',r',l⟩:=hl0 j x v' y2 e4 (hk.elim (λz=>.inr (.inl z)) λz=>.inr (.inr z))
     refine⟨u',r',.inr ⟨.inr y3,c1,h1',?_⟩⟩
     rcases l with⟨lk,_⟩|⟨_,c',c3,c4⟩
     ·rcases hk with z|z
      ·rw[show X.env.kindOf x=some .cell from z]at lk;cases lk
      ·rw[show X.env.kindOf x=some .free from z]at lk;cases lk
     ·rw[h2']at c3;cases c3
      obtain⟨oc,w1,w2⟩:=c4
      exact⟨oc,old _ _ w1,w2⟩
 ·obtain⟨v,oc,w1,w2⟩:=I.cell x c (up _ _ e)
  exact⟨v,oc,old _ _ w1,w2⟩
 ·show((ZW js σ).set 0 (some v)).length=Nc.length
  unfold ZW
  have:=Zb5 htk
  rw[List.length_set,Yl]
  omega
structure LamSc (X:Cx) (Nc:List Str) (js:List (Option Nat)) (params:Arguments) (body:Expr) (scope:Scope) (pn:Str):Prop where
 ok:compOk X.env.scope scope=true
 tk:takesC X.N Nc scope js 0=true
 p0:Nc[0]?=some pn
 j0:js[0]?=some none
 pl:scope.names.lookup pn=some .local
 co:scope.isCoroutine=false
 gen:scope.isGenerator=false
 bd:∀(q:Str) (cl:List (Str×Addr)) (pm cd ctv u:Value),bindArgs (kla_fn "<lambda>" q params body scope cl pm cd ctv) ⟨[u],[]⟩=pure [(pn,u)]
theorem ZkN {pins:List (Addr×Obj)}{σ:St}{H:Hp}{s:Shared}{A':Around}{Nc:List Str}{js:List (Option Nat)}{q pn:Str}{params:Arguments}{body:Expr}{scope:Scope}{P f:Addr}{v:V}{u:Value}{tb:TE}{Q:VK}{E:Value->Shared->Prop}
  (S:LamSc X Nc js params body scope pn) (hbody:∀cl L f c s H,PE (Zji X A' Nc q scope cl L f c s H) body tb) (I:Inv X pins σ H s) (hA:A'.frames=some X.stack) (hh:X.calm=true->A'.handled=none) (hroom:A'.depth<recursionLimit) (L:ZkM X.env P q params body scope H f)
  (r:RelV v u) (h:tb ((ZW js σ).set 0 (some v)) H Q):wpAny (model X.prog X.w) A' (call (.ref f) [u]) (EP X pins σ Q) E s:=by
 obtain⟨c,oc,vs,t,cl,pm,ctv,e1,e2,e3,e4,up,hfr⟩:=L
 have hfo:=(I.hok f _ e1).1
 have hoc:=(I.hok c _ e2).1
 refine wpAny_call (codeAny_mono (R:=λr s'=>∃u',r=.ok (.ret u')/\EP X pins σ Q u' s') (kla_callFunE hroom hfo rfl S.co S.gen rfl ⟨c,oc,vs,t,rfl,hoc,e3,e4⟩ ?_) λr s' ⟨u',hr,z⟩=>by subst hr;exact z)
 show wpAny _ _ (bindArgs (kla_fn "<lambda>" q params body scope cl pm (.ref c) ctv) ⟨[u],[]⟩) _ _ _
 rw[S.bd]
 refine Yc (wpAny_newFunctionEnv (λx hx=>Zcp S.ok x hx) (λx hx=>?_) (λh₁ hns hsb=>⟨I.nolimit.fresh _ hsb,?_⟩) (Zco S.ok))
 ·have:x=(pn,u):=by simpa using hx
  subst this;exact S.pl
 show codeAny _ _ (.expr body (envX q scope s.heap.objs.size f (.ref c) cl)) _ _
 have old:∀b o,s.heap.get? b=some o->h₁.get? b=some o:=λb o e=>hsb.extBut b o (Yo (Yj e)) (Yi _ e)
 have J:=Znz (q:=q) (f:=f) (c:=c) (tk:=s.toks+[(pn,u)].length) I hA hh S.ok S.tk S.p0 S.j0 S.pl up hfr r old hns
 refine kla_codeExpr (Yu (hbody cl _ f c s H [] _ _ H Q J h) (λv' s' ⟨x,H',J',r',q'⟩=>⟨v',rfl,x,H',?_,r',q'⟩) λ_ _ z=>z.elim)
 exact I.Zmm (ch:=[]) J'.os J'.base J'.hok J'.bare λb z=>absurd z (by simp)
end
section
variable {prog:Program}{w:World}{A:Around}{E:Value->Shared->Prop}{s:Shared}
noncomputable def Zpu (b:Bool) (st:SortSt):Array Value:=if b then ((arrOf st).map (·.2)).reverse else (arrOf st).map (·.2)
noncomputable def ZlP (h:Heap) (kS a:Addr) (out:Array Value):Heap:=(h.update kS (Obj.mapSeq λ_=>(#[]:Array Value))).update a (Obj.mapSeq λ_=>out)
theorem Zrx {a kS:Addr}{b:Bool}{e e1:Nat}{keys:Array Value}{st:SortSt}{R:PySem.Fin->Shared->Prop} (ok:s.heap.get? kS=some (seqObj "list" keys e)) (oa:s.heap.get? a=some (seqObj "list" #[] e1)) (ne:a≠kS) (z1:keys.size<=1000) (z2:(arrOf st).size<=1000) (hf:failedOf st=none)
  (h:R (.done (.ret .none)) {s with heap:=ZlP s.heap kS a (Zpu b st)}):wpAny (model prog w) A (ksk_tail a b e1 (.ref kS) st) R E s:=by
 have oa1:(s.heap.update kS (Obj.mapSeq λ_=>(#[]:Array Value))).get? a=some (seqObj "list" #[] e1):=(Heap.get?_update_ne _ _ _ _ ne).trans oa
 have zo:(Zpu b st).size<=sizeLine+1:=by
  unfold Zpu
  cases b
  ·rw[Yb YB,Array.size_map];exact Nat.le_succ_of_le (Yn z2 (by decide))
  ·rw[Yd rfl,Array.size_reverse,Array.size_map];exact Nat.le_succ_of_le (Yn z2 (by decide))
 unfold ksk_tail
 dsimp only
 refine Ya (listUpdate_at ok rfl (Ya (wpAny_letGo (Ya (seqEpoch_at oa1 rfl (Ya (listUpdate_at oa1 rfl ?_ (Yt _) zo)))))) (Yn z1 (by decide)) (Yt _))
 rw[hf]
 simp only[bne_self_eq_false,Bool.false_eq_true,if_false]
 exact Yc h
theorem sk_end {a kS:Addr}{b:Bool}{e e1:Nat}{keys:Array Value}{vs:List Value}{kz:List Int}{R:PySem.Fin->Shared->Prop} (ok:s.heap.get? kS=some (seqObj "list" keys e)) (oa:s.heap.get? a=some (seqObj "list" #[] e1)) (ne:a≠kS) (hk:IntsAre keys.toList kz) (hl:kz.length=vs.length) (h64:vs.length<64)
  (h:∀out:Array Value,KskOut b kz vs out.toList->R (.done (.ret .none)) {s with heap:=ZlP s.heap kS a out}):wpAny (model prog w) A (ksk_end a b vs.toArray e1 (.ref kS) keys) R E s:=by
 have hz:keys.size=vs.length:=by
  have q:=hk.length
  rw[YK]at q;omega
 have hzz:(keys.zip vs.toArray).size=vs.length:=by rw[Array.size_zip,hz,Yr,Nat.min_self]
 have go:∀t:Sem PySem.Fin,wpAny (model prog w) A t R E s->wpAny (model prog w) A (if b=true then (rule "list.sort.reverse" >>= λ_=>t)else t) R E s:=λt ht=>by
  cases b
  ·exact ht
  ·exact Ya (wpAny_rule ht)
 have hst:(if b=true then (keys.zip vs.toArray).reverse else keys.zip vs.toArray).Perm (keys.zip vs.toArray):=by
  cases b
  ·exact .refl _
  ·exact Array.perm_iff_toList_perm.mpr (by rw[Yd rfl,Array.toList_reverse];exact List.reverse_perm _)
 have done:∀st:SortSt,(arrOf st).Perm (keys.zip vs.toArray)->failedOf st=none->SortedTo (arrOf st) (arrOf st).size->wpAny (model prog w) A (ksk_tail a b e1 (.ref kS) st) R E s:=λst q1 q2 q3 =>
  Zrx ok oa ne (by omega) (by rw[q1.size_eq,hzz];omega) q2 (h _ (ksk_out hk q1 q3))
 unfold ksk_end
 refine go _ ?_
 by_cases h2:vs.length<2
 ·have h2':vs.toArray.size<2:=by rw[Yr];exact h2
  rw[Yd h2',Yd h2']
  refine Ya (Yc ?_)
  dsimp only
  rw[StateT.run_pure]
  refine Ya (Yc (done (SortSt.mk' general' (if b=true then (keys.zip vs.toArray).reverse else keys.zip vs.toArray) #[] 7 none) hst rfl λi j hij hj=>?_))
  have hj':j<(if b=true then (keys.zip vs.toArray).reverse else keys.zip vs.toArray).size:=hj
  rw[hst.size_eq,hzz]at hj'
  rw[show i=j by omega]
  exact Int.le_refl _
 ·have h2':¬ vs.toArray.size<2:=by rw[Yr];exact h2
  rw[Yb h2',Yb h2',ksk_kind hk (by omega)]
  refine Ya (Yc (Ya (Yu (wpS_sortRuns (a₀:=keys.zip vs.toArray) (st:=SortSt.mk' oneType' (if b=true then (keys.zip vs.toArray).reverse else keys.zip vs.toArray) #[] 7 none)
   (Q:=λ_ st=>(arrOf st).Perm (keys.zip vs.toArray)/\failedOf st=none/\SortedTo (arrOf st) (keys.zip vs.toArray).size) (ksk_intKeys hk) ⟨hst,rfl,rfl,rfl⟩ (by omega) (by omega) λst q1 q2 q3=>⟨q1,q2,q3⟩) ?_ λ_ _ z=>z)))
  rintro⟨⟨⟩,st⟩ s' ⟨rfl,q1,q2,q3⟩
  exact done st q1 q2 (by rw[q1.size_eq];exact q3)
end
section
variable {X:Cx}
theorem Inv.track {pins:List (Addr×Obj)}{σ:St}{H:Hp}{s:Shared}{a:Addr}{o:HO} (I:Inv X pins σ H s) (hn:H a=none) (hL:a≠X.env.locals) (h1:a∈X.ex\/X.s₀.heap.objs.size<=a) (h2:∀x c,X.env.cells.lookup x=some c->c≠a) (h3:∀p∈X.pn++pins,p.1≠a)
  (new:Zaf X.prog X.w (upd H a o) s.heap a o):Inv X pins σ (upd H a o) s:=by
 have up:∀b u,H b=some u->upd H a o b=some u:=λb u e=>by rw[Zj (Zv e hn)];exact e
 have J:=I.step (g':=s.gens) (d':=s.drawn) (t':=s.toks) (h':=s.heap) (H':=upd H a o) (ch:=[a]) (λb hb=>?_) (λb o _ _ _ e _=>e) (λb o _ _ _ e _=>⟨o.slots,e⟩) (λb o hb e n=>?_) (λb o _ e=>⟨o,e⟩) (λb xs e=>up _ _ e) (λb o u e=>up _ _ e) (λb ps e=>⟨#[],by rw[up _ _ e];simp⟩) (λm hm=>hm) (λb u e=>?_) I.bare
 ·exact J
 ·have e:b=a:=by simpa using hb
  subst e
  exact⟨h1,hL,h2,h3⟩
 ·rw[Zj (λz=>hb (by simp[z]))];exact n
 ·by_cases z:b=a
  ·subst z;rw[Zc]at e;cases e;exact new
  ·rw[Zj z]at e
   exact(I.hok b u e).ZfQ (λc v _ q=>q) (λc q=>up _ _ q) (λc xs q=>up _ _ q) λc o' u' q=>up _ _ q
theorem Zry {pins:List (Addr×Obj)}{σ:St}{H:Hp}{s:Shared}{A':Around}{E:Value->Shared->Prop}{f:Value}{b:Bool}{a kS:Addr}{e1:Nat}{vs:List Value}{ns:List Int}{kz:Int->Int}{R:PySem.Fin->Shared->Prop}
  (I:Inv X ((kS,seqObj "list" #[] 0)::(a,seqObj "list" #[] e1)::pins) σ H s) (hk0:X.s₀.heap.objs.size<=kS) (ha0:X.s₀.heap.objs.size<=a) (ne:a≠kS) (hp:∀p∈X.pn++pins,p.1≠kS/\p.1≠a) (hv:IntsAre vs ns) (h64:vs.length<64)
  (turn:∀(H':Hp) (s':Shared) (pins':List (Addr×Obj)) (n:Int) (u:Value),n∈ns->Inv X pins' σ H' s'->Zg H H'->RelV (.int n) u->wpAny (model X.prog X.w) A' (call f [u]) (EP X pins' σ λv H2=>v=.int (kz n)/\Zg H' H2) (λ_ _=>False) s')
  (fin:∀(H':Hp) (s':Shared) (out:Array Value) (c:Nat),Inv X pins σ H' s'->Zg H H'->H' a=none->s'.heap.get? a=some (seqObj "list" out c)->KskOut b (ns.map kz) vs out.toList->R (.done (.ret .none)) s') :
  wpAny (model X.prog X.w) A' (ksk_rest a f b vs.toArray e1 (.ref kS)) R E s:=by
 have hlen:vs.length=ns.length:=hv.length
 have facts:∀{H':Hp}{s':Shared}{ps:List (Addr×Obj)}{x:Addr}{xs:Array Value}{c:Nat},Inv X ps σ H' s'->(x,seqObj "list" xs c)∈ps->s'.heap.get? x=some (seqObj "list" xs c)/\H' x=none/\x≠X.env.locals/\x∉X.fs/\∀y cc,X.env.cells.lookup y=some cc->cc≠x:=λ{H' s' ps x xs c} J hm=>by
  obtain⟨q1,q2,q3,q4,_⟩:=J.pin _ (Yk _ hm)
  refine⟨q1,q2,q3,q4,λy cc hc z=>?_⟩
  obtain⟨v,oc,w1,w2⟩:=J.cell y cc hc
  rw[z,q1]at w1;cases w1;cases w2
 unfold ksk_rest
 refine Ya (wpAny_rule ?_)
 first
  |rw[List.forIn_toArray]
  |(rw[<-Array.forIn_toList];simp only[List.toList_toArray])
 refine Ya (ksk_fold (λi s'=>∃H' kA e,Inv X ((kS,seqObj "list" kA e)::(a,seqObj "list" #[] e1)::pins) σ H' s'/\Zg H H'/\IntsAre kA.toList ((ns.take i).map kz)) vs 0 s ⟨H,#[],0,I,Zg.refl H,by simpa using IntsAre.nil⟩ ?step ?done)
 case step =>
  rintro j x s' hx ⟨H',kA,e,J,sm,hk⟩
  simp only[Nat.zero_add]at hk⊢
  have hj:j<vs.length:=(Yw.mp hx).1
  have hnj:ns[j]?=some ns[j]:=Yh (by omega)
  obtain⟨t,ht⟩:=hv.get j _ hnj
  rw[hx]at ht
  cases ht
  have hz:kA.size<=64:=by
   have h1:=hk.length
   rw[YK,Yl,YY]at h1
   omega
  refine Ya (wpAny_attempt (Yu (turn H' s' _ ns[j] _ (YR _) J sm ⟨t,rfl⟩) (λv s'' he=>?_) λ_ _ hF=>hF.elim))
  obtain⟨x2,H2,J2,r2,rfl,sm2⟩:=he
  obtain⟨t2,rfl⟩:=r2
  obtain⟨o1,n1,l1,_,c1⟩:=facts J2 (Yx ..)
  try dsimp only
  obtain⟨c2,hc2⟩:∃c2,(s''.heap.update kS (Obj.mapSeq (·.push (.int (kz ns[j]) t2)))).get? kS=some (seqObj "list" (kA.push (.int (kz ns[j]) t2)) c2):=⟨_,get?_update_seq o1 (·.push (.int (kz ns[j]) t2))⟩
  refine Ya (listUpdate_at o1 rfl ?_ (Yn hz (by decide)) (Yn (Y5 (Array.size_push ..)) (Nat.le_succ_of_le (Yn (Nat.succ_le_succ hz) (by decide)))))
  have J3:Inv X ((a,seqObj "list" #[] e1)::pins) σ H2 s'':=J2.ZU λp hp'=>by
   obtain⟨q1,q2,q3,q4,q5⟩:=J2.pin p (Yk _ (Yz _ hp'))
   exact⟨q1,q2,q3,q4,q5⟩
  have J4:=J3.turned (t':=s''.toks) (h':=s''.heap.update kS (Obj.mapSeq (·.push (.int (kz ns[j]) t2)))) (it:=kS) (λb o nb e=>(Heap.get?_update_ne _ _ _ _ nb).trans e) n1 l1 (.inr hk0) c1 (λp hp'=>by
   rcases Yy.mp hp' with z|z
   ·exact(hp p (YG _ z)).1
   ·rcases Ym.mp z with rfl|z
    ·exact ne
    ·exact(hp p (Yk _ z)).1)
  have o1f:=(facts J2 (Yx ..)).2.2.2.1
  have J5:Inv X ((kS,seqObj "list" (kA.push (.int (kz ns[j]) t2)) c2)::(a,seqObj "list" #[] e1)::pins) σ H2 {s'' with heap:=s''.heap.update kS (Obj.mapSeq (·.push (.int (kz ns[j]) t2)))}:=J4.ZU λp hp'=>by
   rcases Ym.mp hp' with rfl|hp'
   ·exact⟨hc2,n1,l1,o1f,λv z=>by cases z⟩
   ·exact J4.pin p (Yk _ hp')
  refine Yc ⟨rfl,H2,_,_,J5,sm.trans sm2,?_⟩
  have ek:(ns.take (j+1)).map kz=(ns.take j).map kz++[kz ns[j]]:=by rw[Y7,hnj,YX];rfl
  have ea:(kA.push (Value.int (kz ns[j]) t2)).toList=kA.toList++[Value.int (kz ns[j]) t2]:=by simp
  rw[ea,ek];exact ksk_snoc hk
 case done =>
  rintro s' ⟨H',kA,e,J,sm,hk⟩
  have hk':IntsAre kA.toList (ns.map kz):=by
   rw[List.take_of_length_le (by omega)]at hk
   exact hk
  obtain⟨o1,n1,l1,f1,c1⟩:=facts J (Yx ..)
  obtain⟨o2,n2,l2,f2,c2⟩:=facts J (Yz _ (Yx ..))
  refine Ya (listItems_at o1 rfl ?_)
  refine sk_end o1 o2 ne hk' (by rw[Yl];exact hlen.symm) h64 λout ho=>?_
  have J3:Inv X pins σ H' s':=J.ZU λp hp'=>J.pin p (Yk _ (Yz _ (Yz _ hp')))
  have J4:=J3.turned (t':=s'.toks) (h':=s'.heap.update kS (Obj.mapSeq λ_=>(#[]:Array Value))) (it:=kS) (λb o nb e=>(Heap.get?_update_ne _ _ _ _ nb).trans e) n1 l1 (.inr hk0) c1 λp hp'=>(hp p hp').1
  have J5:=J4.turned (t':=s'.toks) (h':=ZlP s'.heap kS a out) (it:=a) (λb o nb e=>(Heap.get?_update_ne _ _ _ _ nb).trans e) n2 l2 (.inr ha0) c2 λp hp'=>(hp p hp').2
  have o3:(s'.heap.update kS (Obj.mapSeq λ_=>(#[]:Array Value))).get? a=some (seqObj "list" #[] e1):=(Heap.get?_update_ne _ _ _ _ ne).trans o2
  exact fin H' _ out _ J5 sm n2 (get?_update_seq o3 λ_=>out) ho
theorem Zrz {pins:List (Addr×Obj)}{σ:St}{H:Hp}{s:Shared}{A':Around}{E:Value->Shared->Prop}{f:Value}{b:Bool}{a:Addr}{e0:Nat}{vs:List Value}{ns:List Int}{kz:Int->Int}{R:PySem.Fin->Shared->Prop}
  (I:Inv X ((a,seqObj "list" vs.toArray e0)::pins) σ H s) (ha0:X.s₀.heap.objs.size<=a) (hp:∀p∈X.pn++pins,p.1≠a) (hv:IntsAre vs ns) (h64:vs.length<64)
  (turn:∀(H':Hp) (s':Shared) (pins':List (Addr×Obj)) (n:Int) (u:Value),n∈ns->Inv X pins' σ H' s'->Zg H H'->RelV (.int n) u->wpAny (model X.prog X.w) A' (call f [u]) (EP X pins' σ λv H2=>v=.int (kz n)/\Zg H' H2) (λ_ _=>False) s')
  (fin:∀(H':Hp) (s':Shared) (out:Array Value) (c:Nat),Inv X pins σ H' s'->Zg H H'->H' a=none->s'.heap.get? a=some (seqObj "list" out c)->KskOut b (ns.map kz) vs out.toList->R (.done (.ret .none)) s') :
  wpAny (model X.prog X.w) A' (ksk_tree a f b) R E s:=by
 obtain⟨oa,na,la,fa,da⟩:=I.pin _ (Yk _ (Yx ..))
 have ca:∀y cc,X.env.cells.lookup y=some cc->cc≠a:=λy cc hc z=>by
  obtain⟨v,oc,w1,w2⟩:=I.cell y cc hc
  rw[z,oa]at w1;cases w1;cases w2
 have lt:=Yj oa
 obtain⟨e1,oa1⟩:∃e1,(s.heap.update a (Obj.mapSeq λ_=>(#[]:Array Value))).get? a=some (seqObj "list" #[] e1):=⟨_,get?_update_seq oa λ_=>#[]⟩
 have I0:Inv X pins σ H s:=I.ZU λp hp'=>I.pin p (Yk _ (Yz _ hp'))
 have I1:=I0.turned (t':=s.toks) (h':=s.heap.update a (Obj.mapSeq λ_=>(#[]:Array Value))) (it:=a) (λb o nb e=>(Heap.get?_update_ne _ _ _ _ nb).trans e) na la (.inr ha0) ca hp
 have sz:(s.heap.update a (Obj.mapSeq λ_=>(#[]:Array Value))).objs.size=s.heap.objs.size:=Heap.size_update ..
 have I2:=I1.kept (h':=((s.heap.update a (Obj.mapSeq λ_=>(#[]:Array Value))).push (seqObj "tuple" vs.toArray 0)).push (seqObj "list" #[] 0)) (t':=s.toks) λb o e=>Yi _ (Yi _ e)
 have sz2:((s.heap.update a (Obj.mapSeq λ_=>(#[]:Array Value))).push (seqObj "tuple" vs.toArray 0)).objs.size=s.heap.objs.size+1:=(size_push' ..).trans (congrArg (·+1) sz)
 have hge:X.s₀.heap.objs.size<=s.heap.objs.size:=I.sz
 have hkL:X.env.locals<s.heap.objs.size:=I.lt
 have nk:H (s.heap.objs.size+1)=none:=I.hok.fresh (YS _)
 unfold ksk_tree
 refine Ya (listItems_at oa rfl (Ya (listUpdate_at oa rfl (Ya (seqEpoch_at oa1 rfl (Ya (wpAny_newTuple (Ya (wpAny_newList (wpAny_holding ?_) (Yt _))) ?_)))) ?_ (Yt _))))
 ·rw[sz2]
  refine Zry (kS:=s.heap.objs.size+1) (e1:=e1) (I2.ZU λp hp'=>?_) (Nat.le_succ_of_le hge) ha0 (Yo (YN lt)) (λp hp'=>⟨?_,hp p hp'⟩) hv h64 turn fin
  ·rcases Ym.mp hp' with rfl|hp'
   ·exact⟨by rw[<-sz2];exact Yv _ rfl,nk,Nat.ne_of_gt (YN hkL),I.Zlq (YS _),λv z=>by cases z⟩
   ·rcases Ym.mp hp' with rfl|hp'
    ·exact⟨Yi _ (Yi _ oa1),na,la,fa,λv z=>by cases z⟩
    ·exact I2.pin p (Yk _ hp')
  ·have:=Yj (I0.pin p hp').1
   exact Yo (YN this)
 ·exact Yn (show vs.length<=64 by omega) (by decide)
 ·rw[Yr];exact Yn (show vs.length<=64 by omega) (by decide)
end
theorem Zpv {prog:Program}{w:World}{A:Around}{R:Result->Shared->Prop}{s:Shared}{r S:Addr}{a b c:Int}{t u v:Tok}{n c₀:Nat} (hh:A.handled=none) (hr:IsRange s.heap r a b c t u v) (hsmall:Builtin.Range.small a b c=true)
  (hn:Builtin.Range.rangeSize a b c=n) (hlen:n<=2 ^ 24) (hS:s.heap.get? S=some {cls:=.type "list",data:=.seq #[] c₀})
  (hR:∀h' tk acc' c',(∀b o,b≠S->s.heap.get? b=some o->h'.get? b=some o)->h'.get? S=some {cls:=.type "list",dict:=none,data:=.seq acc' c',slots:=#[]}->ItemsOf (λi v=>∃t,v=.int (a+i*c) t) acc' n->R (.ok (.ret (.ref S))) {s with heap:=h',toks:=tk}) :
  codeAny (model prog w) A (.builtin "list.__iadd__" ⟨[.ref S,.ref r],[]⟩) R s :=
 codeAny_builtin entry_list_iadd' (wpAny_extend_range hh hr hsmall hn hlen S (.ref S) c₀ hS hR)
theorem ZkO {prog:Program}{w:World}{A:Around}{E:Value->Shared->Prop}{s:Shared}{r:Addr}{a b c:Int}{t u v:Tok}{n:Nat}{Q:List Value->Shared->Prop} (hh:A.handled=none) (hr:IsRange s.heap r a b c t u v) (hsmall:Builtin.Range.small a b c=true)
  (hn:Builtin.Range.rangeSize a b c=n) (hlen:n<=2 ^ 24) (h:∀(h':Heap) (tk:Nat) (acc:Array Value),(∀b o,s.heap.get? b=some o->h'.get? b=some o)->ItemsOf (λi v=>∃t,v=.int (a+i*c) t) acc n->Q acc.toList {s with heap:=h',toks:=tk}) :
  wpAny (model prog w) A (collect (.ref r)) Q E s:=by
 unfold collect
 refine Ya (wpAny_runValue (codeAny_builtin entry_proto_collect' ?_))
 show wpAny _ _ (newList [] >>= λl=>again (.builtin "list.__iadd__" ⟨[l,.ref r],[]⟩)) _ _ s
 refine Ya (wpAny_newList (Yc ⟨Code.quiet_builtin _ (by decide +kernel),?_⟩))
 refine Zpv (s:={s with heap:=s.heap.push (seqObj "list" #[] 0)}) hh (Yi _ hr) hsmall hn hlen (Yv _ rfl) λh' tk acc c' hk hS hacc=>?_
 refine Ya (wpAny_load hS (Yc (h h' tk acc (λb o e=>hk b o (Yo (Yj e)) (Yi _ e)) hacc)))
theorem ZkP (g:Int->Int):∀vs:List Value,((vs.map numOf).map g).zip vs=vs.map λv=>(g (numOf v),v)
 |[]=>rfl
 |v::vs=>by
  simp only[YO,List.zip_cons_cons]
  rw[ZkP g vs]
theorem ZlQ {b:Bool}{g:Int->Int}{vs out:List Value}{ns:List Int} (hv:IntsAre vs ns) (h:KskOut b (ns.map g) vs out):∃ns',IntsAre out ns'/\ns'.Perm ns/\ns'.Pairwise λx y=>if b then g y<=g x else g x<=g y:=by
 obtain⟨ps,hp,rfl,hs⟩:=h
 have en:ns=vs.map numOf:=hv.nums.symm
 rw[en,ZkP]at hp
 have mem:∀p∈ps,p.1=g (numOf p.2)/\p.2∈vs:=λp hp'=>by
  obtain⟨v,hv',rfl⟩:=YQ.mp (hp.mem_iff.mp hp')
  exact⟨rfl,hv'⟩
 refine⟨(ps.map Prod.snd).map numOf,intsAre_map _ λv hv'=>?_,?_,?_⟩
 ·obtain⟨p,hp',rfl⟩:=YQ.mp hv'
  exact hv.all _ (mem p hp').2
 ·have:=(hp.map Prod.snd).map numOf
  rw[Y2 (l:=vs),show(Prod.snd ∘ λv=>(g (numOf v),v))=(id:Value->Value)from rfl,List.map_id]at this
  rw[en];exact this
 ·rw[List.pairwise_map,List.pairwise_map]
  refine hs.imp_of_mem λ{p q} hp' hq' hr=>?_
  rw[<-(mem p hp').1,<-(mem q hq').1]
  exact hr
noncomputable def nats (n:Int):List Int:=(List.range n.toNat).map λ(i:Nat)=>(i:Int)
section
variable {X:Cx}
theorem ZlR {pins:List (Addr×Obj)}{σ:St}{H:Hp}{s:Shared}{kw:List (Str×Value)}{f:Value}{b:Bool}{p:Addr}{n:Int}{kz:Int->Int}{Q:VK} (I:Inv X pins σ H s) (hc:X.calm=true) (hp:H p=some (.rng 0 n)) (h0:0<=n) (h64:n<64)
  (ha1:argsOk "sorted" ⟨[.ref p],kw⟩) (ha2:∀x,argsOk "list.sort" ⟨[.ref x],kw⟩) (ht:∀x,Builtin.«list.sort» ⟨[.ref x],kw⟩=ksk_tree x f b)
  (turn:∀(H':Hp) (s':Shared) (pins':List (Addr×Obj)) (i:Int) (u:Value),0<=i->i<n->Inv X pins' σ H' s'->Zg H H'->RelV (.int i) u->wpAny (model X.prog X.w) X.A.in1.in1 (call f [u]) (EP X pins' σ λv H2=>v=.int (kz i)/\Zg H' H2) (λ_ _=>False) s')
  (fin:∀(ns:List Int) (l:Addr) (H':Hp),ns.Perm (nats n)->(ns.Pairwise λx y=>if b then kz y<=kz x else kz x<=kz y)->Zg H H'->H l=none->H' l=some (.lst (ns.map V.int))->Q (.ref l) H') :
  wpAny (model X.prog X.w) X.A (call (.builtin "sorted") [.ref p] kw) (EP X pins σ Q) X.xe s:=by
 obtain⟨t,u,v,hob⟩:=(show ∃t u v,s.heap.get? p=some {cls:=.type "range",data:=.fields #[.int 0 t,.int n u,.int 1 v]}from I.hok p _ hp)
 refine call_function_entry_kw kind_sorted plain_sorted entry_sorted ha1 ?_
 unfold Builtin.«sorted»
 refine Ya (m:=checkCount "sorted" 1 1 _) (Yc (Ya (ZkO (n:=n.toNat) (I.ok.hd hc) hob (small_one (by omega) (by omega) (by omega) (by omega)) (by rw[rangeSize_one];split<;>omega) (by omega) λh1 tk acc k1 hacc=>Ya (wpAny_newList ?_ ?_))))
 case refine_2=>rw[YK,hacc.1];exact Yn (show n.toNat<=1000 by omega) (by decide)
 have hia:IntsAre acc.toList (nats n):=by
  have hv:Vals ((nats n).map V.int) acc.toList:=by
   unfold nats
   rw[Y2]
   exact Zrs (g:=λ(i:Nat)=>V.int (i:Int)) (P:=λ(i:Nat) v=>∃t,v=.int (0+(i:Int)*1) t) (λi v h=>by obtain⟨t,e⟩:=h;exact⟨t,by rw[e];simp⟩) _ _ (by rw[YK];exact hacc.1) λk v hk=>hacc.2 k v (by simpa using hk)
  exact intsAre_of hv
 have I1:=I.kept (t':=tk) k1
 show wpAny _ _ _ _ _ {s with heap:=h1.push (seqObj "list" acc.toList.toArray 0),toks:=tk}
 have oa:(h1.push (seqObj "list" acc.toList.toArray 0)).get? h1.objs.size=some (seqObj "list" acc.toList.toArray 0):=Yv _ rfl
 have I2:=I1.kept (h':=h1.push (seqObj "list" acc.toList.toArray 0)) (t':=tk) λb o e=>Yi _ e
 have na:H h1.objs.size=none:=I1.hok.fresh (Yf _)
 have la:h1.objs.size≠X.env.locals:=Nat.ne_of_gt I1.lt
 have a0:X.s₀.heap.objs.size<=h1.objs.size:=I1.sz
 have hl:acc.toList.length<64:=by rw[YK,hacc.1];omega
 refine Ya (wpAny_holding (wpAny_call_entry_kw slot_list_sort ⟨_,oa,rfl⟩ entry_list_sort ?body (ha2 _)))
 case body =>
  show wpAny (model X.prog X.w) X.A.in1.in1 (Builtin.«list.sort» ⟨[.ref h1.objs.size],kw⟩) _ _ _
  rw[ht]
  refine Zrz (e0:=0) (pins:=pins) (ns:=nats n) (kz:=kz) (I2.ZU λq hq=>?_) a0 (λq hq=>?_) hia hl (λH' s' pins' i u hi J sm r=>?_) λH' s' out c J sm n2 o2 ko=>⟨_,rfl,Yc ⟨_,rfl,?_⟩⟩
  ·rcases Ym.mp hq with rfl|hq
   ·exact⟨oa,na,la,I1.Zlq (Yf _),λv z=>by cases z⟩
   ·exact I2.pin q (Yk _ hq)
  ·exact Yo (Yj (I1.pin q hq).1)
  ·obtain⟨k,hk,rfl⟩:=YQ.mp hi
   have:=YF.mp hk
   exact turn H' s' pins' _ u (by omega) (by omega) J sm r
  ·obtain⟨ns,hi,hpm,hpw⟩:=ZlQ hia ko
   have ca:∀y cc,X.env.cells.lookup y=some cc->cc≠h1.objs.size:=λy cc hc' z=>by
    obtain⟨v,oc,w1,w2⟩:=I1.cell y cc hc'
    exact absurd (Yj w1) (by rw[z];exact YA _)
   have K:=J.track (a:=h1.objs.size) (o:=.lst (ns.map V.int)) n2 la (.inr a0) ca (λq hq=>Yo (Yj (I1.pin q hq).1)) ⟨?_,out.toList,c,Zgz hi,by rw[Array.toArray_toList];exact o2⟩
   ·exact⟨.ref h1.objs.size,_,K,rfl,fin ns _ _ hpm hpw (λb o e=>by rw[Zj (Zv e na)];exact sm _ _ e) na Zc⟩
   ·rw[Yl,hpm.length_eq]
    unfold nats
    rw[Yl,Jc]
    exact Yn (show n.toNat<=1000 by omega) (by decide)
noncomputable def ZjU (ta td:TA) (tb:TE) (js:List (Option Nat)) (env:Env) (P:Addr) (q:Str) (params:Arguments) (body:Expr) (scope:Scope):TE:=fun σ H Q=>ta σ H λvs H1=>td σ H1 λzs H2=>∃(p f:Addr) (n:Int) (kz:Int->Int),
 vs=[.ref p]/\zs=[.ref f,.bl true]/\H2 p=some (.rng 0 n)/\0<=n/\n<64/\ZkM env P q params body scope H2 f /\
 (∀i H3,0<=i->i<n->Zg H2 H3->tb ((ZW js σ).set 0 (some (.int i))) H3 λv H4=>v=.int (kz i)/\Zg H3 H4) /\
 ∀(ns:List Int) (l:Addr) (H3:Hp),ns.Perm (nats n)->(ns.Pairwise λx y=>kz y<=kz x)->Zg H2 H3->H2 l=none->H3 l=some (.lst (ns.map V.int))->Q (.ref l) H3
theorem Zpw {pins':List (Addr×Obj)}{σ:St}{H':Hp}{s':Shared}{Nc:List Str}{js:List (Option Nat)}{q pn:Str}{params:Arguments}{body:Expr}{scope:Scope}{P f:Addr}{tb:TE}{Q:VK}{m:Nat}{i:Int}{u:Value} (hr:Room m X.A)
  (S:LamSc X Nc js params body scope pn) (hbody:∀cl L f c s H,PE (Zji X X.A.in1.in1 Nc q scope cl L f c s H) body tb) (J:Inv X pins' σ H' s') (L:ZkM X.env P q params body scope H' f) (r:RelV (.int i) u)
  (h:tb ((ZW js σ).set 0 (some (.int i))) H' Q):wpAny (model X.prog X.w) X.A.in1.in1 (call (.ref f) [u]) (EP X pins' σ Q) (λ_ _=>False) s' :=
 ZkN S hbody J J.ok.frames J.ok.hd hr.depth L r h
theorem ZnA {Nc:List Str}{js:List (Option Nat)}{q pn:Str}{params:Arguments}{body:Expr}{scope:Scope}{P:Addr}{ta td:TA}{tb:TE}{m:Nat}{e:Expr}{e2:Expr}{p pos lpos kp1 kp2:Pos} (hc:X.calm=true) (hr:Room m X.A) (S:LamSc X Nc js params body scope pn)
  (hbody:∀cl L f c s H,PE (Zji X X.A.in1.in1 Nc q scope cl L f c s H) body tb) (hg:Gl X "sorted") (hm:X.mg "sorted"=none) (ha:PA X [e] ta) (hd:PK X [⟨some (Str.ofString "key"),.Lambda params body scope lpos,kp1⟩,⟨some (Str.ofString "reverse"),e2,kp2⟩] td)
  (hpl:(backTo pos (starEach [e] X.env)).any (·.1)=false:=by rfl) (hall:(backToKw pos (keywordEach [⟨some (Str.ofString "key"),.Lambda params body scope lpos,kp1⟩,⟨some (Str.ofString "reverse"),e2,kp2⟩] X.env)).all (·.1.isSome)=true:=by rfl)
  (hnn:(backToKw pos (keywordEach [⟨some (Str.ofString "key"),.Lambda params body scope lpos,kp1⟩,⟨some (Str.ofString "reverse"),e2,kp2⟩] X.env)).any (·.1.isNone)=false:=by rfl) (hks:(backToKw pos (keywordEach [⟨some (Str.ofString "key"),.Lambda params body scope lpos,kp1⟩,⟨some (Str.ofString "reverse"),e2,kp2⟩] X.env)).filterMap (·.1)=[Str.ofString "key",Str.ofString "reverse"]:=by rfl) (hb:backTo pos (starEach [e] X.env)=(false,eval e X.env)::backTo pos (starEach [] X.env):=by rfl) :
  PE X (.Call (.Name "sorted" p) [e] [⟨some (Str.ofString "key"),.Lambda params body scope lpos,kp1⟩,⟨some (Str.ofString "reverse"),e2,kp2⟩] pos) (ZjU ta td tb js X.env P q params body scope):=by
 intro pins s σ H Q I h
 refine wpAny_Call_Name_kw (Zcw I hg hm Zjg ?_)
 refine PyProof.Rows.callWith_kw (thn (ha pos pins s σ H _ I h) λus s1 ⟨vs,H1,I1,r1,q1⟩=>?_) hb hpl hall hnn
 refine thn (hd pos pins s1 σ H1 _ I1 q1) λws s2 ⟨zs,H2,I2,r2,pp,f,n,kz,e1,e2,hp,h0,h64,L,tn,fin⟩=>?_
 subst e1 e2
 obtain⟨u,rfl,ru⟩:=r1.one
 cases(show u=Value.ref pp from ru)
 rw[hks]
 obtain⟨v,v2,rfl,rv,rv2⟩:=r2.two
 cases(show v=Value.ref f from rv)
 cases(show v2=Value.bool true from rv2)
 exact ZlR (f:=.ref f) (b:=true) (kz:=kz) I2 hc hp h0 h64 (ksk_s2 _ _ _) (λx=>ksk_l2 _ _ _) (λx=>ksk_t2 _ _ _) (λH' s' pins' i u hi0 hi1 J sm r=>Zpw hr S hbody J (L.same sm) r (tn i H' hi0 hi1 sm)) (λns l H' a1 a2=>fin ns l H' a1 a2)
end
noncomputable def ZkQ (x:Str):Str:=(x++".<locals>.")++"<lambda>"
noncomputable def Zee (K:Frag) (mg:Str->Option Value) (x:Str) (H:Hp):Prop:=H (ZhL K mg x)=some (ZhM (ZkQ x))
theorem Zee.same {K:Frag}{mg:Str->Option Value}{x:Str}{H H':Hp} (h:Zee K mg x H) (s:Zg H H'):Zee K mg x H':=s _ _ h
noncomputable def LamD (K:Frag) (mg:Str->Option Value) (x:Str) (f:Addr):Prop:=∃c,Zny K f=some c/\codeHdIn K c (ZhL K mg x)=true
section
variable {P:Program}{w:World}{K:Frag}{mg:Str->Option Value}{base:Heap}
theorem Fun.okL {x qual:Str}{st:Stmt}{f:Addr}{fd:FuncData}{N ps:List Str}{k:Nat}{sp:Sp} (F:Fun K x qual st f fd) (L:LamD K mg qual f) (B:BM mg base) (S:FnScope N ps (defScope st)) (len:∀vs H Q E,sp vs H Q E->vs.length=ps.length)
  (hbody:∀(cdv:Value) (A:Around) (outer:List Env) (s:Shared) (H:Hp) (vs:List V) (Q:VK) (E:XK),LamIn (ZfT (CXE P w) P w K mg base N qual (defScope st) f cdv A outer s H E) (ZhL K mg qual) (ZkQ qual)->Room k (A.deeper (envOfC qual (defScope st) s.heap.objs.size f cdv))->sp vs H Q E ->
   ∃t,PSs (ZfT (CXE P w) P w K mg base N qual (defScope st) f cdv A outer s H E) (defBody st) t/\t {nx:=λ_ H'=>Q .non H',rt:=Q} (start N vs) H):FnOk P w K mg base (CXE P w) (k+1) f fd ps sp:=by
 obtain⟨oc,od,kV,doc,pm,an,cdv,ct,osl,rfl,lk,hcd⟩:=F.ex
 obtain⟨c,h1,h2⟩:=L
 have e:cdv=.ref c:=by
  unfold Zny at h1
  rw[lk]at h1
  dsimp only at h1
  cases cdv<;>first|(cases h1;rfl)|(cases h1;done)
 exact fn_of lk hcd S len λA outer s H vs Q E hr hsp=>hbody cdv A outer s H vs Q E ⟨⟨c,e,h2⟩,B,rfl⟩ hr hsp
end
theorem Zpx {b:Addr}{q:Str}:∀{l:List (Addr×Str)},l.lookup b=some q->(b,q)∈l
 |[],e=>by cases e
 |(c,y)::r,e=>by
  rw[List.lookup_cons]at e
  cases hb:b==c with
  |true=>rw[hb]at e;cases e;rw[eq_of_beq hb];exact Yx
  |false=>rw[hb]at e;exact Yz _ (Zpx e)
theorem ZmR {K:Frag}{mg:Str->Option Value}{x:Str}{f c T:Addr}{oc1 oc2:Value}{od1 od2:Option Addr}{fd:FuncData}{sl1 sl2:Array (Option Value)}{vs:Array Value} (hm:mg x=some (.ref f)) (l1:K.lookup f=some ⟨oc1,od1,.func fd,sl1⟩) (e:fd.code=.ref c) (l2:K.lookup c=some ⟨oc2,od2,.fields vs,sl2⟩) (h11:vs[11]?=some (.ref T)):ZhL K mg x=T/\Zny K f=some c:=by
 have h1:Zny K f=some c:=by
  unfold Zny
  rw[l1]
  dsimp only
  rw[e]
 refine⟨?_,h1⟩
 unfold ZhL
 rw[hm]
 dsimp only
 rw[h1]
 dsimp only
 unfold tabOf
 rw[l2]
 dsimp only
 rw[h11]
theorem ZnB {P:Program}{w:World}{K:Frag}{mg mb:Str->Option Value}{CX:CXT}{k:Nat}{fa a:Addr}{fd:FuncData}{x:Str}{sp:Sp}{s₁:Shared}{vs:List Value}{ns:List Int}{tabs:List (Addr×Str)}
  (KX:K.In s₁.heap) (hns:s₁.heap.Ns mainGlobals mg) (hb:s₁.heap.Ns builtinsNs mb) (hbb:∀x:Str,x≠"__name__"->mb x=bootBuiltins x) (hlim:s₁.heap.NoLimit) (hg:s₁.gens=#[]) (hbm:BM mg s₁.heap)
  (ha:s₁.heap.get? a=some {cls:=.type "list",data:=.seq vs.toArray}) (hi:IntsAre vs ns) (hl:ns.length<=sizeLine) (hr:Room k callerA)
  (hT:∀p∈tabs,s₁.heap.get? p.1=some (tabObj #[])/\K.lookup p.1=none/\∃c,codeHdIn K c p.1=true) (nd:(tabs.map (·.1)).Nodup)
  (F:∀base:Heap,K.In base->base.Ns mainGlobals mg->BM mg base->FnOk P w K mg base CX k fa fd [x] sp) (hbind:∀(s:Shared) (u:Value),BindsTo s fd ⟨[u],[]⟩ [(x,u)])
  (hsp:∀H:Hp,SqL K H a (ns.map V.int)->(∀p∈tabs,H p.1=some (ZhM p.2))->sp [.ref a] H (λv _=>v=.bl true) λ_ _ _=>False)
  (hCX:∀H e s',CX [] H s₁ (λ_ _ _=>False) e s'->False) :
  codeAny (model P w) callerA (.call (.ref fa) ⟨[.ref a],[]⟩) (λr s'=>r=.ok (.ret (.bool true))/\OldK s₁.heap s'.heap/\s'.os=s₁.os/\AllBare s'.gens) s₁:=by
 have rv:=Zgz hi
 have lenV:=hi.length
 have tmem:∀b q,tabs.lookup b=some q->(b,q)∈tabs:=λb q e=>Zpx e
 have tlook:∀p∈tabs,tabs.lookup p.1=some p.2:=by
  clear hT hsp tmem
  induction tabs with
  |nil=>intro p hp;cases hp
  |cons t r ih =>
   intro p hp
   rw[YO,List.nodup_cons]at nd
   rcases Ym.mp hp with rfl|hp
   ·rw[List.lookup_cons,beq_self_eq_true]
   ·have:(p.1==t.1)=false:=beq_eq_false_iff_ne.mpr λz=>nd.1 (YQ.mpr ⟨p,hp,z⟩)
    rw[List.lookup_cons,this]
    exact ih nd.2 p hp
 have core:∀H:Hp,SqL K H a (ns.map V.int)->HOk P w H s₁.heap->(∀b,H b=none\/(b=a/\K.lookup a=none/\∃o xs,H b=some (.frz o (.lst xs)))\/∃q,(b,q)∈tabs/\H b=some (ZhM q))->(∀p∈tabs,H p.1=some (ZhM p.2)) ->
   codeAny (model P w) callerA (.call (.ref fa) ⟨[.ref a],[]⟩) (λr s'=>r=.ok (.ret (.bool true))/\OldK s₁.heap s'.heap/\s'.os=s₁.os/\AllBare s'.gens) s₁:=by
  intro H hS hok hA hTb
  have base_of:∀{b:Addr}{o:Obj},s₁.heap.get? b=some o->H b=none->(Zix s₁.heap H).get? b=some o:=λe n=>ZoD e n
  have noA:∀{b:Addr}{o:Obj},s₁.heap.get? b=some o->o.cls≠.type "list"->o.cls≠.none->H b=none:=λ{b o} e d1 d2=>by
   rcases hA b with z|⟨z,_⟩|⟨q,z,_⟩
   ·exact z
   ·subst z;rw[ha]at e;cases e;exact absurd rfl d1
   ·rw[(hT _ z).1]at e;cases e;exact absurd rfl d2
  have noD:∀{b:Addr}{o:Obj}{es:Array DictEntry}{ep:Nat},s₁.heap.get? b=some o->o.data=.dict es ep->H b=none:=λ{b o es ep} e d=>by
   rcases hA b with z|⟨z,_⟩|⟨q,z,_⟩
   ·exact z
   ·subst z;rw[ha]at e;cases e;cases d
   ·rw[(hT _ z).1]at e;cases e;cases d
  have nsK:∀{b:Addr}{m:Str->Option Value},s₁.heap.Ns b m->(Zix s₁.heap H).Ns b m:=λ{b m} ⟨o,es,ep,e,d,r⟩=>⟨o,es,ep,base_of e (noD e d),d,r⟩
  have hKb:K.In (Zix s₁.heap H):=λb o e=>base_of (KX b o e) (by
   rcases hA b with z|⟨z,zk,_⟩|⟨q,z,_⟩
   ·exact z
   ·subst z;rw[zk]at e;cases e
   ·rw[(hT _ z).2.1]at e;cases e)
  have hM:Mod K mg (Zix s₁.heap H):=⟨hKb,nsK hns,⟨mb,nsK hb,hbb⟩,let ⟨mc,h1,h2⟩:=hlim;⟨mc,nsK h1,h2⟩⟩
  have hB:BM mg (Zix s₁.heap H):=by
   obtain⟨bm,ob,b1,b2,b3,b4,b5,b6,b7⟩:=hbm
   exact⟨bm,ob,b1,b2,b3,base_of b4 (noA b4 (by rw[b5];decide) (by rw[b5];nofun)),b5,b6,b7⟩
  have e0:Env0 P w K mg (Zix s₁.heap H) callerA [] s₁ H:=⟨rfl,hM,λb o e=>Zri e,Y5 (ZmZ _ _),trivial,λb hb=>absurd (show b∈([]:List Addr)from hb) (by simp),hok,.of_eq hg⟩
  refine codeAny_mono ((F _ hKb (nsK hns) hB).run callerA [] s₁ H ⟨[.ref a],[]⟩ [.ref a] [.ref a] _ _ hr e0 (hbind s₁ (.ref a)) (.cons rfl .nil) (hsp H hS hTb)) λr s' h=>?_
  cases r with
  |error e=>exact(hCX H e s' h).elim
  |ok fl =>
   cases fl with
   |next=>exact False.elim h
   |brk=>exact False.elim h
   |cont=>exact False.elim h
   |ret u =>
    obtain⟨v,H',os,bare,un,hok',r',q⟩:=h
    have q':v=.bl true:=q
    subst q'
    obtain rfl:u=Value.bool true:=r'
    have old:∀b o,s₁.heap.get? b=some o->asItWas s₁.heap s'.heap b o/\∃o',s'.heap.get? b=some o':=λb o e=>by
     rcases hA b with z|⟨_,_,ob,xs,z⟩|⟨q,zm,z⟩
     ·have:=un.keep b o e z (by intro y;exact absurd (show b∈([]:List Addr)from y) (by simp)) (by simp)
      exact⟨.inl this,o,this⟩
     ·have z2:=un.frzs b ob _ z
      obtain⟨e1,_⟩:=hok b _ z
      obtain⟨e2,_⟩:=hok' b _ z2
      rw[e]at e1;cases e1
      exact⟨.inl e2,o,e2⟩
     ·obtain⟨more,z2⟩:=un.tbls b _ z
      obtain⟨ts,e2,_⟩:=hok' b _ z2
      obtain⟨t1,_,c,t3⟩:=hT _ zm
      have t1':s₁.heap.get? b=some (tabObj #[]):=t1
      rw[e]at t1';cases t1'
      refine⟨.inr (.inl ⟨((codeHd_of_K KX t3).tab t1).isCodeTable,rfl,#[],ts,rfl,by rw[Array.empty_append];exact e2⟩),_,e2⟩
    exact⟨rfl,⟨λb o e=>(old b o e).1,λb o e=>(old b o e).2⟩,os,bare⟩
 have neA:∀q,(a,q)∉tabs:=λq z=>by
  have:=(hT _ z).1
  rw[show((a,q):Addr×Str).1=a from rfl,ha]at this;cases this
 have tabok:∀(H:Hp) (b:Addr) (q:Str),(b,q)∈tabs->Zaf P w H s₁.heap b (ZhM q):=λH b q z=>⟨#[],(hT _ z).1,trivial,λpos cv e=>by cases e⟩
 cases hk:K.lookup a with
 |some o =>
  have e:=KX a o hk
  rw[ha]at e
  cases e
  refine core (λb=>(tabs.lookup b).map ZhM) (.inr ⟨_,vs.toArray,_,hk,rfl,rfl,rfl,by rw[Yr,lenV];exact hl,by simpa using rv⟩) (λb u z=>?_) (λb=>?_) λp hp=>by rw[tlook p hp];rfl
  ·dsimp only at z
   cases q:tabs.lookup b with
   |none=>rw[q]at z;cases z
   |some y=>rw[q]at z;cases z;exact tabok _ b y (tmem b y q)
  ·cases q:tabs.lookup b with
   |none=>exact .inl rfl
   |some y=>exact .inr (.inr ⟨y,tmem b y q,rfl⟩)
 |none =>
  refine core (λb=>if b=a then some (.frz {cls:=.type "list",data:=.seq vs.toArray} (.lst (ns.map V.int)))else (tabs.lookup b).map ZhM) (.inl (.inr ⟨{cls:=.type "list",data:=.seq vs.toArray},Yd rfl⟩)) (λb u z=>?_) (λb=>?_) λp hp=>?_
  ·by_cases hb:b=a
   ·have z':=(Yd hb).symm.trans z
    cases z'
    subst hb
    exact⟨ha,by rw[Yl];exact hl,vs,_,rv,ha⟩
   ·have z':=(Yb hb).symm.trans z
    cases q:tabs.lookup b with
    |none=>rw[q]at z';cases z'
    |some y=>rw[q]at z';cases z';exact tabok _ b y (tmem b y q)
  ·by_cases hb:b=a
   ·exact .inr (.inl ⟨hb,hk,_,_,Yd hb⟩)
   ·cases q:tabs.lookup b with
    |none=>exact .inl (by rw[Yb hb];rfl)
    |some y=>exact .inr (.inr ⟨y,tmem b y q,by rw[Yb hb];rfl⟩)
  ·have:p.1≠a:=λz=>neA p.2 (by rw[<-z];exact hp)
   rw[Yb this,tlook p hp];rfl
theorem Zpy {l:OpenLaw}{n k:Nat}{q:Program}{loose:List Str}{XP:(Str->Option Value)->Heap->Prop}{YP:World->Heap->Prop}{d:DefRec}{K:Params->Frag}{CX:World->CXT}{sp:World->(Str->Option Value)->Sp}{x:Str}{ts:List Addr}{tabs:Frag->(Str->Option Value)->List (Addr×Str)}
  (hn:l.most=some n) (hn2:n<=sizeLine) (hdf:d.params.defaults=[]) (hr:Room k callerA)
  (hY:∀(w:World) (h:Heap),YP w h->(K w.params).In h) (hY2:∀(w:World) (h:Heap),YP w h->∀P∈ts,h.get? P=some (tabObj #[]))
  (F:∀(w:World) (mg:Str->Option Value) (fa:Addr) (h:Heap),(K w.params).In h->h.Ns mainGlobals mg->mg d.name=some (.ref fa) ->
   ∃fd:FuncData,(∀(s:Shared) (u:Value),BindsTo s fd ⟨[u],[]⟩ [(x,u)])/\(∀p∈tabs (K w.params) mg,p.1∈ts/\(K w.params).lookup p.1=none/\∃c,codeHdIn (K w.params) c p.1=true)/\((tabs (K w.params) mg).map (·.1)).Nodup /\
    ∀base:Heap,(K w.params).In base->base.Ns mainGlobals mg->BM mg base->FnOk l.prog w (K w.params) mg base (CX w) k fa fd [x] (sp w mg))
  (hsp:∀(w:World) (mg:Str->Option Value) (H:Hp) (a:Addr) (ns:List Int),ns.length<=n->SqL (K w.params) H a (ns.map V.int)->(∀p∈tabs (K w.params) mg,H p.1=some (ZhM p.2))->sp w mg [.ref a] H (λv _=>v=.bl true) λ_ _ _=>False)
  (hCX:∀(w:World) (H:Hp) (s:Shared) (e:Value) (s':Shared),CX w [] H s (λ_ _ _=>False) e s'->False) :
  WalkO q loose XP YP l.row.toRowW d [] (λf vs=>PySem.call f vs):=by
 refine Att.Zkv hn hdf λw s₀ s₁ mg mb fa o pm cd doc a vs ns G Y ho hd hcd hmg hobj hints hlen hg=>?_
 have KX:=hY w _ Y
 have TX:=hY2 w _ Y
 obtain⟨fd,hb,hT,nd,hF⟩:=F w mg fa _ KX G.T.g hmg
 have hbm:BM mg s₁.heap:=by
  obtain⟨bm,ob,b1,b2,b3,b4,b5,b6⟩:=G.T.bmain
  have bG:bm≠mainGlobals:=λz=>by
   obtain⟨o,es,ep,e,hd,_⟩:=G.T.g
   rw[z,e]at b3;cases b3;rw[hd]at b6;cases b6
  exact⟨bm,ob,b1,b2,bG,b3,b4,b5,b6⟩
 exact ZnB KX G.T.g G.T.b G.T.builtins G.T.nolimit hg hbm hobj hints (Yn hlen hn2) hr (λp hp=>⟨TX _ (hT p hp).1,(hT p hp).2⟩) nd hF hb (λH hS hTb=>hsp w mg H a ns hlen hS hTb) λH e s'=>hCX w H s₁ e s'
theorem ZlS (a v d:Value):argsOk "max" ⟨[a],[(Str.ofString "key",v),(Str.ofString "default",d)]⟩:=by unfold argsOk;kernel_rfl
section
variable {X:Cx}
theorem ZaA {σ:St}{H':Hp}{s':Shared}{ps:List (Addr×Obj)}{x:Addr}{o:Obj} (J:Inv X ps σ H' s') (hm:(x,o)∈ps):s'.heap.get? x=some o/\H' x=none/\x≠X.env.locals/\x∉X.fs/\(∀v,o.data≠.cell v)/\∀y cc,X.env.cells.lookup y=some cc->cc≠x:=by
 obtain⟨q1,q2,q3,q4,q5⟩:=J.pin _ (Yk _ hm)
 refine⟨q1,q2,q3,q4,q5,λy cc hc z=>?_⟩
 obtain⟨v,oc,w1,w2⟩:=J.cell y cc hc
 rw[z,q1]at w1;cases w1;exact q5 _ w2
end
section
variable {prog:Program}{w:World}{A:Around}{E:Value->Shared->Prop}{s:Shared}
theorem Zjj {it t:Addr}{items:Array Value} (hh:A.handled=none) (hne:t≠it):∀(n i:Nat) (s:Shared) (Q:List Value->Shared->Prop),s.heap.IsListIter it t i->s.heap.IsList t items->i+n<=items.size ->
  (∀h' tk,h'.IsListIter it t (i+n)->h'.IsList t items->(∀b o,b≠it->s.heap.get? b=some o->h'.get? b=some o)->Q ((items.toList.drop i).take n) {s with heap:=h',toks:=tk})->wpAny (model prog w) A (draw (.ref it) n) Q E s
 |0,i,s,Q,hit,hl,_,hQ=>by
  show wpAny _ _ (pure []) Q E s
  exact Yc (by simpa using hQ s.heap s.toks hit hl λb o _ e=>e)
 |n+1,i,s,Q,hit,hl,hle,hQ=>by
  have hlt:i<items.size:=by omega
  have W:=Walks.list (prog:=prog) (w:=w) (A:=A) hh it t hne items
  show wpAny _ _ (pyNext (.ref it) >>= _) Q E s
  refine Ya (W.item i _ _ _ hlt ⟨hit,hl⟩ λv h₁ tk₁ hP hst hk=>?_)
  have hv:items[i]?=some v:=hP
  rw[getElem?_pos items i hlt]at hv
  cases hv
  refine Ya (wpAny_holding (Zjj hh hne n (i+1) _ _ hst.1 hst.2 (by omega) λh₂ tk₂ hit₂ hl₂ hk₂=>Yc ?_))
  have hd:items.toList.drop i=items[i]::items.toList.drop (i+1):=by simp[List.drop_eq_getElem_cons,hlt]
  have:=hQ h₂ tk₂ (by rw[show i+(n+1)=i+1+n by omega];exact hit₂) hl₂ λb o hb e=>hk₂ b o hb (hk b o (by simpa using hb) e)
  rw[hd,List.take_succ_cons]at this
  exact this
theorem ZgE {t:Addr}{items:Array Value}{Q:List Value->Shared->Prop} (hh:A.handled=none) (ht:s.heap.IsList t items)
  (hQ:∀h' tk,(∀b o,s.heap.get? b=some o->h'.get? b=some o)->Q items.toList {s with heap:=h',toks:=tk}):wpAny (model prog w) A (unpackItems (.ref t) items.size none) Q E s:=by
 have hlt:t≠s.heap.objs.size:=by obtain⟨o,ho,_⟩:=ht;exact Yo (Yj ho)
 have old:∀b o,s.heap.get? b=some o->b≠s.heap.objs.size:=λb o e=>Yo (Yj e)
 unfold unpackItems
 refine Ya ?_
 ·unfold notIterableAtAll
  refine Ya (wpAny_specialOf ht.typeIs slot_list_iter.lookup ?_)
  refine Yc ?_
  simp only[Bool.false_eq_true,if_false]
  refine Ya (wpAny_holding (wpAny_pyIter_list ht ?_))
  have hl2:(s.heap.push {cls:=.type "list_iterator",data:=.fields #[.ref t,.int 0 0]}).IsList t items:=by
   obtain⟨o,e,r⟩:=ht
   exact⟨o,Yi _ e,r⟩
  refine Ya (wpAny_holding (Zjj hh hlt items.size 0 _ _ ⟨_,Yv _ rfl,rfl,rfl⟩ hl2 (by omega) λh₁ tk₁ hit₁ hl₁ hk₁=>?_))
  have hall:List.take items.size (List.drop 0 items.toList)=items.toList:=by
   rw[List.drop_zero];exact List.take_of_length_le (by simp)
  rw[hall]
  rw[Yb (by simp)]
  have W:=Walks.list (prog:=prog) (w:=w) (A:=A) hh s.heap.objs.size t hlt items
  refine Ya (wpAny_holding (W.done _ _ _ ⟨by rw[Nat.zero_add]at hit₁;exact hit₁,hl₁⟩ λh₂ tk₂ hk₂=>?_))
  simp only[Option.isSome_none,Bool.false_eq_true,if_false]
  exact Yc (hQ h₂ tk₂ λb o e=>hk₂ b o (by simpa using old b o e) (hk₁ b o (old b o e) (Yi _ e)))
end
section
variable {X:Cx}
noncomputable def gLst (K:PySem.W.Frag) (n:Nat) (t:TGs):TG:=λv σ H Q=>∃a xs,v=.ref a/\SqL K H a xs/\xs.length=n/\t xs σ H Q
theorem pg_lst {K:Frag}{es:List Expr}{pos:Pos}{k:Nat}{t:TGs}{n:Nat} (hK:X.K=K) (hc:X.calm=true) (h:PGs X es t)
  (hn:(assignEach es X.env).length=n:=by rfl) (hst:(assignEach es X.env).findIdx? (·.1)=none:=by rfl):PG X (.Tuple es k pos) (gLst K n t):=by
 subst hK
 intro pins s σ H v u Q I r hw
 obtain⟨a,xs,e1,hq,hl,hw⟩:=hw
 subst e1
 cases r
 obtain⟨its,rv,pl,hz⟩:=I.list hq
 have hlen:(assignEach es X.env).length=its.toArray.size:=by
  have:=rv.length
  rw[hn,Yr];omega
 rw[assign_Tuple]
 refine Ya (wpAny_standAt ?_)
 unfold unpack
 rw[hlen,hst]
 refine Ya (wpAny_holding (ZgE (I.ok.hd hc) pl.isList λh' tk kp=>?_))
 exact h pins _ σ H xs _ Q (I.kept kp) (by simpa using rv) hw
end
section
variable {prog:Program}{w:World}{A:Around}{E:Value->Shared->Prop}{s:Shared}{κ:SortKind}{P:Keyed->Prop}{ky:Keyed->Int}
noncomputable def Zev (prog:Program) (w:World) (A:Around) (s:Shared) (κ:SortKind) (P:Keyed->Prop) (ky:Keyed->Int):Prop :=
 ∀x y,P x->P y->∀C:Bool->Shared->Prop,C (decide (ky x<ky y)) s->wpAny (model prog w) A (keyLt' κ x.1 y.1) C (λ_ _=>False) s
theorem ZkR (hc:Zev prog w A s κ P ky) {x y:Keyed}{st:SortSt}{Q:Option Bool->SortSt->Prop} (hk:PyProof.Rows.kindOf st=κ) (hx:P x) (hy:P y) (h:Q (some (decide (ky x<ky y))) st):wpS (model prog w) A E s (lt' x y) Q st:=by
 rw[lt'_eq]
 refine Ye (wpS_get ?_)
 refine Ye (wpS_lift ?_)
 refine wpAny_attempt ?_
 rw[hk]
 refine Yu (hc x y hx hy (λb s'=>s'=s/\b=decide (ky x<ky y)) ⟨rfl,rfl⟩) ?_ (λ_ _ z=>z.elim)
 rintro b s' ⟨rfl,rfl⟩
 exact⟨rfl,Yg h⟩
theorem ZK {arr:Array Keyed}{i:Nat}{st:SortSt}{Q:Keyed->SortSt->Prop} (hi:i<arr.size) (h:Q (arr[i]'hi) st):wpS (model prog w) A E s (elem' arr i) Q st:=by
 rw[elem'_eq,getElem?_pos arr i hi]
 exact Yg h
noncomputable def ZrA:Bool->Keyed->Array Keyed->Nat->Nat->Nat->StateT SortSt Sem (Option Nat):=sortPriv% PySem.Builtin.gallop
theorem ZbX {left:Bool}{key:Keyed}{arr:Array Keyed}{base n hint:Nat}{st:SortSt}{Q:Option Nat->SortSt->Prop}{f:Nat->Bool}
  (hc:Zev prog w A s κ P ky) (hk:PyProof.Rows.kindOf st=κ) (hkey:P key) (hP:∀i,(h:i<arr.size)->P arr[i]) (hn:base+n<=arr.size) (hh:hint<n)
  (hf:∀i,(h:base+i<arr.size)->f i=if left then decide (ky arr[base+i]<ky key)else !decide (ky key<ky arr[base+i]))
  (hm:∀i j,i<=j->j<n->f j=true->f i=true)
  (hQ:∀r,r<=n->(∀i,i<r->f i=true)->(∀i,r<=i->i<n->f i=false)->Q (some r) st) :
  wpS (model prog w) A E s (ZrA left key arr base n hint) Q st:=by
 have hb:∀i,i<n->∀{R:Option Bool->SortSt->Prop},R (some (f i)) st->wpS (model prog w) A E s (do
   let x <-elem' arr (base+i)
   if left=true then lt' x key else do
    let c <-lt' key x
    pure (Option.map (λx=>!x) c)) R st:=by
  intro i hi R hR
  have hlt:base+i<arr.size:=by omega
  refine Ye (ZK hlt ?_)
  rw[hf i hlt]at hR
  cases left with
  |true=>exact ZkR hc hk (hP _ hlt) hkey hR
  |false=>exact Ye (ZkR hc hk hkey (hP _ hlt) (Yg hR))
 have hbin:∀lo hi,lo<=hi->hi<=n->(∀i,i<lo->f i=true)->(∀i,hi<=i->i<n->f i=false)->∀(body:Nat->Option (Option Nat)×Nat×Nat->StateT SortSt Sem (ForInStep (Option (Option Nat)×Nat×Nat))) (R:Option (Option Nat)×Nat×Nat->SortSt->Prop),
   (∀x c,body x c=if c.2.1 ≥ c.2.2 then pure (ForInStep.done (none,c.2.1,c.2.2))else do
    let r <-(do
     let x <-elem' arr (base+(c.2.1+(c.2.2-c.2.1) / 2))
     if left=true then lt' x key else do
      let c <-lt' key x
      pure (Option.map (λx=>!x) c))
    match r with
    |some more=>if more=true then pure (ForInStep.yield (none,c.2.1+(c.2.2-c.2.1) / 2+1,c.2.2))else pure (ForInStep.yield (none,c.2.1,c.2.1+(c.2.2-c.2.1) / 2))
    |x=>pure (ForInStep.done (some none,c.2.1,c.2.2))) ->
   (∀r,r<=n->(∀i,i<r->f i=true)->(∀i,r<=i->i<n->f i=false)->R (none,r,r) st)->wpS (model prog w) A E s (forIn [:n] (none,lo,hi) body) R st:=by
  intro lo hi hlh hhn h1 h2 body R hbody hR
  refine wpS_forRange (λt c st'=>st'=st/\c.1=none/\c.2.1<=c.2.2/\c.2.2<=n/\(∀i,i<c.2.1->f i=true)/\(∀i,c.2.2<=i->i<n->f i=false)/\c.2.2-c.2.1<=n-t) ?_ ?_ ⟨rfl,rfl,hlh,hhn,h1,h2,by show hi-lo<=n-0;omega⟩
  ·rintro t ⟨r,lo,hi⟩ st' _ ht ⟨rfl,e,a1,a2,a3,a4,a5⟩
   rw[hbody]
   simp only at e a1 a2 a3 a4 a5⊢
   by_cases hge:lo ≥ hi
   ·rw[Yd hge]
    have:lo=hi:=by omega
    subst this
    exact Yg (hR lo a2 a3 a4)
   ·rw[Yb hge]
    refine Ye (hb _ (by omega) ?_)
    cases hv:f (lo+(hi-lo) / 2)with
    |true =>
     refine Yg ⟨rfl,rfl,?_,a2,?_,a4,?_⟩
     ·show lo+(hi-lo) / 2+1<=hi;omega
     ·intro i hi2;exact hm i (lo+(hi-lo) / 2) (by simp only at hi2;omega) (by omega) hv
     ·show hi-(lo+(hi-lo) / 2+1)<=n-(t+1);omega
    |false =>
     refine Yg ⟨rfl,rfl,?_,?_,a3,?_,?_⟩
     ·show lo<=lo+(hi-lo) / 2;omega
     ·show lo+(hi-lo) / 2<=n;omega
     ·intro i hi2 hi3
      cases hz:f i with
      |false=>rfl
      |true=>rw[hm (lo+(hi-lo) / 2) i hi2 hi3 hz]at hv;cases hv
     ·show lo+(hi-lo) / 2-lo<=n-(t+1);omega
  ·rintro⟨r,lo,hi⟩ st' ⟨rfl,e,a1,a2,a3,a4,a5⟩
   simp only at e a1 a2 a3 a4 a5
   have:lo=hi:=by
    have:max 0 n=n:=by omega
    rw[this]at a5;omega
   subst this;subst e
   exact hR lo a2 a3 a4
 refine Ye (hb hint hh ?_)
 cases hv:f hint with
 |true =>
  refine Ye (wpS_mono (Q:=λ(c:Option (Option Nat)×Nat×Nat) (st':SortSt)=>st'=st/\c.1=none/\hint+c.2.1<n/\c.2.1<c.2.2/\f (hint+c.2.1)=true/\(n-hint<=c.2.2\/(hint+c.2.2<n/\f (hint+c.2.2)=false))) (wpS_forRange (λ(t:Nat) (c:Option (Option Nat)×Nat×Nat) (st':SortSt)=>st'=st/\c.1=none/\c.2.1<c.2.2/\hint+c.2.1<n/\f (hint+c.2.1)=true/\t+1<=c.2.2) ?_ ?_ ⟨rfl,rfl,Nat.zero_lt_one,by show hint+0<n;omega,hv,Yf _⟩) ?_)
  ·rintro t ⟨r,lo,of⟩ st' _ ht ⟨rfl,e,a1,a2,a3,a4⟩
   simp only at e a1 a2 a3 a4⊢
   split
   ·rename_i hge
    exact Yg ⟨rfl,rfl,a2,a1,a3,.inl hge⟩
   ·rename_i hge
    refine Ye (hb (hint+of) (by omega) ?_)
    cases hw:f (hint+of)with
    |true=>exact Yg ⟨rfl,rfl,by show of<2*of+1;omega,by show hint+of<n;omega,hw,by show t+1+1<=2*of+1;omega⟩
    |false=>exact Yg ⟨rfl,rfl,a2,a1,a3,.inr ⟨by show hint+of<n;omega,hw⟩⟩
  ·rintro⟨r,lo,of⟩ st' ⟨rfl,e,a1,a2,a3,a4⟩
   simp only at e a1 a2 a3 a4
   exact⟨rfl,e,a2,a1,a3,.inl (by show n-hint<=of;omega)⟩
  ·rintro⟨r,lo,of⟩ st' ⟨rfl,e,a1,a2,a3,a4⟩
   simp only at e a1 a2 a3 a4⊢
   subst e
   refine Ye (hbin (hint+lo+1) (hint+min of (n-hint)) (by omega) (by omega) ?_ ?_ _ _ (λx c=>rfl) ?_)
   ·intro i hi;exact hm i (hint+lo) (by omega) a1 a3
   ·intro i h1 h2
    cases hz:f i with
    |false=>rfl
    |true =>
     rcases a4 with a4|⟨a4,a5⟩
     ·omega
     ·rw[hm (hint+of) i (by omega) h2 hz]at a5;cases a5
   ·intro r h1 h2 h3
    exact Yg (hQ r h1 h2 h3)
 |false =>
  refine Ye (wpS_mono (Q:=λ(c:Option (Option Nat)×Nat×Nat) (st':SortSt)=>st'=st/\c.1=none/\c.2.1<=hint/\c.2.1<c.2.2/\f (hint-c.2.1)=false/\(hint+1<=c.2.2\/(c.2.2<=hint/\f (hint-c.2.2)=true))) (wpS_forRange (λ(t:Nat) (c:Option (Option Nat)×Nat×Nat) (st':SortSt)=>st'=st/\c.1=none/\c.2.1<c.2.2/\c.2.1<=hint/\f (hint-c.2.1)=false/\t+1<=c.2.2) ?_ ?_ ⟨rfl,rfl,Nat.zero_lt_one,Yt _,hv,Yf _⟩) ?_)
  ·rintro t ⟨r,lo,of⟩ st' _ ht ⟨rfl,e,a1,a2,a3,a4⟩
   simp only at e a1 a2 a3 a4⊢
   split
   ·rename_i hge
    exact Yg ⟨rfl,rfl,a2,a1,a3,.inl hge⟩
   ·rename_i hge
    refine Ye (hb (hint-of) (by omega) ?_)
    cases hw:f (hint-of)with
    |false=>exact Yg ⟨rfl,rfl,by show of<2*of+1;omega,by show of<=hint;omega,hw,by show t+1+1<=2*of+1;omega⟩
    |true=>exact Yg ⟨rfl,rfl,a2,a1,a3,.inr ⟨by show of<=hint;omega,hw⟩⟩
  ·rintro⟨r,lo,of⟩ st' ⟨rfl,e,a1,a2,a3,a4⟩
   simp only at e a1 a2 a3 a4
   exact⟨rfl,e,a2,a1,a3,.inl (by show hint+1<=of;omega)⟩
  ·rintro⟨r,lo,of⟩ st' ⟨rfl,e,a1,a2,a3,a4⟩
   simp only at e a1 a2 a3 a4⊢
   subst e
   refine Ye (hbin (hint+1-min of (hint+1)) (hint-lo) (by omega) (by omega) ?_ ?_ _ _ (λx c=>rfl) ?_)
   ·intro i hi
    rcases a4 with a4|⟨a4,a5⟩
    ·omega
    ·exact hm i (hint-of) (by omega) (by omega) a5
   ·intro i h1 h2
    cases hz:f i with
    |false=>rfl
    |true=>rw[hm (hint-lo) i (by omega) h2 hz]at a3;cases a3
   ·intro r h1 h2 h3
    exact Yg (hQ r h1 h2 h3)
end
section
variable {ky:Keyed->Int}
noncomputable def Srt (ky:Keyed->Int) (l:List Keyed):Prop:=l.Pairwise (λx y=>ky x<=ky y)
structure Mg (ky:Keyed->Int) (a b:List Keyed) (out:List Keyed) (ia ib:Nat):Prop where
 perm:out.Perm (a.take ia++b.take ib)
 srt:Srt ky out
 le:∀x,x∈out->∀y,y∈a.drop ia\/y∈b.drop ib->ky x<=ky y
variable {a b out:List Keyed}{ia ib:Nat}
theorem Mg.swap (h:Mg ky a b out ia ib):Mg ky b a out ib ia:=⟨h.perm.trans List.perm_append_comm,h.srt,λx hx y hy=>h.le x hx y hy.symm⟩
theorem Mg.ZmS (ha:Srt ky a) (h:Mg ky a b out ia ib) (hia:ia<a.length) (hle:∀y,y∈b.drop ib->ky a[ia]<=ky y):Mg ky a b (out++[a[ia]]) (ia+1) ib:=by
 have e:a.drop ia=a[ia]::a.drop (ia+1):=List.drop_eq_getElem_cons hia
 have hs:∀y,y∈a.drop (ia+1)->ky a[ia]<=ky y:=by
  have:Srt ky (a.drop ia):=List.Pairwise.sublist (List.drop_sublist _ _) ha
  rw[e]at this
  exact(Y1.mp this).1
 refine⟨?_,?_,?_⟩
 ·have et:a.take (ia+1)=a.take ia++[a[ia]]:=by rw[Y7,Yh hia];rfl
  rw[et,YI]
  refine(List.Perm.append_right [a[ia]] h.perm).trans ?_
  rw[YI]
  exact List.Perm.append_left _ List.perm_append_comm
 ·refine List.pairwise_append.mpr ⟨h.srt,List.pairwise_singleton _ _,?_⟩
  intro x hx y hy
  rw[Y0]at hy;subst hy
  exact h.le x hx _ (.inl (by rw[e];exact Yx))
 ·intro x hx y hy
  rcases Yy.mp hx with hx|hx
  ·refine h.le x hx y ?_
   rcases hy with hy|hy
   ·exact .inl (by rw[e];exact Yz _ hy)
   ·exact .inr hy
  ·rw[Y0]at hx;subst hx
   rcases hy with hy|hy
   ·exact hs y hy
   ·exact hle y hy
theorem Mg.ZmT (ha:Srt ky a) (h:Mg ky a b out ia ib):∀k,ia+k<=a.length->(∀i,(hi:ia+i<a.length)->i<k->∀y,y∈b.drop ib->ky a[ia+i]<=ky y)->Mg ky a b (out++(a.drop ia).take k) (ia+k) ib
 |0,_,_=>by simpa using h
 |k+1,hk,hle=>by
  have h2:=(Mg.ZmT ha h k (by omega) λi hi hik=>hle i hi (by omega)).ZmS ha (by omega) (hle k (by omega) (by omega))
  have:(a.drop ia).take (k+1)=(a.drop ia).take k++[a[ia+k]]:=by
   rw[Y7,List.getElem?_drop,Yh (by omega:ia+k<a.length)];rfl
  rw[this,<-YI]
  exact h2
theorem Mg.stepB (hb:Srt ky b) (h:Mg ky a b out ia ib) (hib:ib<b.length) (hle:∀y,y∈a.drop ia->ky b[ib]<=ky y):Mg ky a b (out++[b[ib]]) ia (ib+1):=(h.swap.ZmS hb hib hle).swap
theorem Mg.bulkB (hb:Srt ky b) (h:Mg ky a b out ia ib) (k:Nat) (hk:ib+k<=b.length) (hle:∀i,(hi:ib+i<b.length)->i<k->∀y,y∈a.drop ia->ky b[ib+i]<=ky y):Mg ky a b (out++(b.drop ib).take k) ia (ib+k):=(h.swap.ZmT hb k hk hle).swap
theorem ZhN (ha:Srt ky a) (hi:ia<a.length) {y:Keyed} (hy:y∈a.drop ia):ky a[ia]<=ky y:=by
 have:Srt ky (a.drop ia):=List.Pairwise.sublist (List.drop_sublist _ _) ha
 rw[List.drop_eq_getElem_cons hi]at this hy
 rcases Ym.mp hy with hy|hy
 ·subst hy;exact Int.le_refl _
 ·exact(Y1.mp this).1 y hy
noncomputable def Gd (ky:Keyed->Int) (a b res:List Keyed):Prop:=res.Perm (a++b)/\Srt ky res
theorem Mg.ZkS (ha:Srt ky a) (h:Mg ky a b out ia ib) (hib:b.length<=ib):Gd ky a b (out++a.drop ia):=by
 refine⟨?_,List.pairwise_append.mpr ⟨h.srt,List.Pairwise.sublist (List.drop_sublist _ _) ha,λx hx y hy=>h.le x hx y (.inl hy)⟩⟩
 refine(List.Perm.append_right _ h.perm).trans ?_
 rw[List.take_of_length_le hib,YI]
 refine(List.Perm.append_left _ List.perm_append_comm).trans ?_
 rw[<-YI,Y3]
theorem Mg.ZmU (hb:Srt ky b) (h:Mg ky a b out ia ib) (hia:a.length<=ia):Gd ky a b (out++b.drop ib):=by
 have:=h.swap.ZkS hb hia
 exact⟨this.1.trans List.perm_append_comm,this.2⟩
theorem Mg.lastA (ha:Srt ky a) (hb:Srt ky b) (h:Mg ky a b out ia ib) (hl:∀y,y∈b.drop ib->∀z,z∈a.drop ia->ky y<=ky z):Gd ky a b (out++b.drop ib++a.drop ia):=by
 refine⟨?_,?_⟩
 ·refine(List.Perm.append_right _ (List.Perm.append_right _ h.perm)).trans ?_
  rw[YI,YI]
  have e1:a++b=a.take ia++(a.drop ia++(b.take ib++b.drop ib)):=by rw[<-YI,Y3,Y3]
  rw[e1]
  refine List.Perm.append_left _ ?_
  rw[<-YI]
  exact List.perm_append_comm
 ·refine List.pairwise_append.mpr ⟨List.pairwise_append.mpr ⟨h.srt,List.Pairwise.sublist (List.drop_sublist _ _) hb,λx hx y hy=>h.le x hx y (.inr hy)⟩,List.Pairwise.sublist (List.drop_sublist _ _) ha,?_⟩
  intro x hx y hy
  rcases Yy.mp hx with hx|hx
  ·exact h.le x hx y (.inl hy)
  ·exact hl x hx y hy
variable {prog:Program}{w:World}{A:Around}{E:Value->Shared->Prop}{s:Shared}{κ:SortKind}{P:Keyed->Prop}
theorem Zq {σ α:Type}{c:Prop} [Decidable c] {m1 m2:StateT σ Sem α}{Q:α->σ->Prop}{st:σ}{M:Model} (h1:c->wpS M A E s m1 Q st) (h2:¬c->wpS M A E s m2 Q st):wpS M A E s (if c then m1 else m2) Q st:=by
 by_cases h:c
 ·rw[Yd h];exact h1 h
 ·rw[Yb h];exact h2 h
noncomputable def Zpz:Array Keyed->Array Keyed->StateT SortSt Sem (Array Keyed):=sortPriv% PySem.Builtin.mergeLo
theorem ZlT {a b:Array Keyed}{arr:Array Keyed}{pd:Array (Nat×Nat×Nat)}{g:Nat}{fl:Option Value}{Q:Array Keyed->SortSt->Prop}
  (hc:Zev prog w A s κ P ky) (hPa:∀i,(h:i<a.size)->P a[i]) (hPb:∀i,(h:i<b.size)->P b[i]) (ha:Srt ky a.toList) (hb:Srt ky b.toList)
  (ha0:0<a.size) (hb0:0<b.size) (h0:ky b[0]<=ky a[0]) (hl:∀j,(h:j<b.size)->ky b[j]<=ky (a[a.size-1]'(by omega)))
  (hQ:∀res g',Gd ky a.toList b.toList res.toList->Q res (SortSt.mk' κ arr pd g' fl)) :
  wpS (model prog w) A E s (Zpz a b) Q (SortSt.mk' κ arr pd g fl):=by
 refine Ye (wpS_lift (wpAny_rule ⟨rfl,?_⟩))
 refine Ye (ZK hb0 ?_)
 have m0:Mg ky a.toList b.toList [] 0 0:=⟨by simp,List.Pairwise.nil,λx hx=>by cases hx⟩
 have hdA:∀i,(h:i<a.size)->∀y,y∈a.toList.drop i->ky a[i]<=ky y:=λi h y hy=>ZhN ha (by simpa using h) hy
 have hdB:∀i,(h:i<b.size)->∀y,y∈b.toList.drop i->ky b[i]<=ky y:=λi h y hy=>ZhN hb (by simpa using h) hy
 have m1:Mg ky a.toList b.toList #[b[0]].toList 0 1:=by
  have:=m0.stepB hb (by simpa using hb0) (λy hy=>Int.le_trans h0 (hdA 0 ha0 y hy))
  simpa using this
 have exA:∀i,(a.extract i).toList=a.toList.drop i:=λi=>by simp[Array.toList_extract,List.extract];exact List.take_of_length_le (by simp)
 have exB:∀i,(b.extract i).toList=b.toList.drop i:=λi=>by simp[Array.toList_extract,List.extract];exact List.take_of_length_le (by simp)
 have exA2:∀i k,(a.extract i (i+k)).toList=(a.toList.drop i).take k:=λi k=>by simp[Array.toList_extract,List.extract]
 have exB2:∀i k,(b.extract i (i+k)).toList=(b.toList.drop i).take k:=λi k=>by simp[Array.toList_extract,List.extract]
 have hdone:∀(out:Array Keyed) ia ib,Mg ky a.toList b.toList out.toList ia ib->b.size<=ib->Gd ky a.toList b.toList (out++a.extract ia++b.extract ib).toList:=by
  intro out ia ib m h
  rw[Array.toList_append,Array.toList_append,exA,exB,List.drop_of_length_le (l:=b.toList) (by simpa using h),List.append_nil]
  exact m.ZkS ha (by simpa using h)
 have hdone2:∀(out:Array Keyed) ia ib,Mg ky a.toList b.toList out.toList ia ib->a.size<=ia->Gd ky a.toList b.toList (out++a.extract ia++b.extract ib).toList:=by
  intro out ia ib m h
  rw[Array.toList_append,Array.toList_append,exA,exB,List.drop_of_length_le (by simpa using h),List.append_nil]
  exact m.ZmU hb (by simpa using h)
 have hlast:∀(out:Array Keyed) ia ib,Mg ky a.toList b.toList out.toList ia ib->ia+1=a.size->Gd ky a.toList b.toList (out++b.extract ib++a.extract ia).toList:=by
  intro out ia ib m h
  rw[Array.toList_append,Array.toList_append,exA,exB]
  refine m.lastA ha hb ?_
  intro y hy z hz
  have hz2:z=a[ia]'(by omega):=by
   rw[List.drop_eq_getElem_cons (by simp;omega),List.drop_of_length_le (by simp;omega)]at hz
   simpa using hz
  subst hz2
  obtain⟨j,hj,e⟩:=List.mem_iff_getElem.mp (List.mem_of_mem_drop hy)
  rw[<-e]
  have:=hl j (by simpa using hj)
  have e2:a.size-1=ia:=by omega
  simp only[e2]at this
  simpa using this
 have sA:∀(out:Array Keyed) ia ib,Mg ky a.toList b.toList out.toList ia ib->(h:ia<a.size)->(∀y,y∈b.toList.drop ib->ky a[ia]<=ky y)->Mg ky a.toList b.toList (out.push a[ia]).toList (ia+1) ib:=λout ia ib m h hle=>by
  rw[Array.toList_push];exact m.ZmS ha (by simpa using h) hle
 have sB:∀(out:Array Keyed) ia ib,Mg ky a.toList b.toList out.toList ia ib->(h:ib<b.size)->(∀y,y∈a.toList.drop ia->ky b[ib]<=ky y)->Mg ky a.toList b.toList (out.push b[ib]).toList ia (ib+1):=λout ia ib m h hle=>by
  rw[Array.toList_push];exact m.stepB hb (by simpa using h) hle
 have bA:∀(out:Array Keyed) ia ib k,Mg ky a.toList b.toList out.toList ia ib->ia+k<=a.size->(∀i,(h:ia+i<a.size)->i<k->∀y,y∈b.toList.drop ib->ky a[ia+i]<=ky y)->Mg ky a.toList b.toList (out++a.extract ia (ia+k)).toList (ia+k) ib:=λout ia ib k m h hle=>by
  rw[Array.toList_append,exA2];exact m.ZmT ha k (by simpa using h) (λi hi hik=>hle i (by simpa using hi) hik)
 have bB:∀(out:Array Keyed) ia ib k,Mg ky a.toList b.toList out.toList ia ib->ib+k<=b.size->(∀i,(h:ib+i<b.size)->i<k->∀y,y∈a.toList.drop ia->ky b[ib+i]<=ky y)->Mg ky a.toList b.toList (out++b.extract ib (ib+k)).toList ia (ib+k):=λout ia ib k m h hle=>by
  rw[Array.toList_append,exB2];exact m.bulkB hb k (by simpa using h) (λi hi hik=>hle i (by simpa using hi) hik)
 have moA:∀i j,(hij:i<=j)->(h:j<a.size)->ky (a[i]'(by omega))<=ky a[j]:=λi j hij h=>hdA i (by omega) _ (by rw[List.mem_drop_iff_getElem];exact⟨j-i,by simp;omega,by simp;congr 1;omega⟩)
 have moB:∀i j,(hij:i<=j)->(h:j<b.size)->ky (b[i]'(by omega))<=ky b[j]:=λi j hij h=>hdB i (by omega) _ (by rw[List.mem_drop_iff_getElem];exact⟨j-i,by simp;omega,by simp;congr 1;omega⟩)
 refine Zq (λh1=>?_) (λh1=>Zq (λh2=>?_) (λh2=>?_))
 ·exact Yg (hQ _ _ (hdone _ 0 1 m1 (by simp at h1⊢;omega)))
 ·exact Yg (hQ _ _ (hlast _ 0 1 m1 (by simpa using h2)))
 ·have h1':b.size≠1:=λz=>h1 (by simp[z])
  have h2':a.size≠1:=λz=>h2 (by simp[z])
  refine Ye (wpS_get ?_)
  refine Ye (wpS_mono (Q:=λ(c:Option (Array Keyed)×Array Keyed×Nat×Nat×Nat) (st':SortSt)=>(∃g',st'=SortSt.mk' κ arr pd g' fl)/\∃res,c.1=some res/\Gd ky a.toList b.toList res.toList) (wpS_forRange (λ(t:Nat) (c:Option (Array Keyed)×Array Keyed×Nat×Nat×Nat) (st':SortSt)=>(∃g',st'=SortSt.mk' κ arr pd g' fl)/\c.1=none/\Mg ky a.toList b.toList c.2.1.toList c.2.2.1 c.2.2.2.1/\c.2.2.1+1<a.size/\c.2.2.2.1<b.size/\t<c.2.2.1+c.2.2.2.1) ?_ ?_ ⟨⟨g,rfl⟩,rfl,m1,by show 0+1<a.size;omega,by show 1<b.size;omega,by show 0<0+1;omega⟩) ?_)
  ·rintro t ⟨r,out,ia,ib,mg⟩ st' _ ht ⟨⟨g1,rfl⟩,e,m,hia,hib,hti⟩
   simp only at e m hia hib hti
   subst e
   refine Ye (wpS_mono (Q:=λ(c:Option (Array Keyed)×Array Keyed×Nat×Nat×Nat×Nat) (st':SortSt)=>(∃g',st'=SortSt.mk' κ arr pd g' fl)/\((∃res,c.1=some res/\Gd ky a.toList b.toList res.toList)\/(c.1=none/\Mg ky a.toList b.toList c.2.1.toList c.2.2.1 c.2.2.2.1/\c.2.2.1+1<a.size/\c.2.2.2.1<b.size/\t<c.2.2.1+c.2.2.2.1))) (wpS_forRange (λ(u:Nat) (c:Option (Array Keyed)×Array Keyed×Nat×Nat×Nat×Nat) (st':SortSt)=>(∃g',st'=SortSt.mk' κ arr pd g' fl)/\c.1=none/\Mg ky a.toList b.toList c.2.1.toList c.2.2.1 c.2.2.2.1/\c.2.2.1+1<a.size/\c.2.2.2.1<b.size/\t<c.2.2.1+c.2.2.2.1) ?_ ?_ ⟨⟨g1,rfl⟩,rfl,m,hia,hib,hti⟩) ?_)
   ·rintro u ⟨r,out,ia,ib,ac,bc⟩ st' _ hu ⟨⟨g1,rfl⟩,e,m,hia,hib,hti⟩
    simp only at e m hia hib hti
    subst e
    refine Ye (ZK hib ?_)
    refine Ye (ZK (by omega:ia<a.size) ?_)
    refine Ye (ZkR hc rfl (hPb _ _) (hPa _ _) ?_)
    refine Zq (λhv=>?_) (λhv=>?_)
    ·have hv:=YV hv
     refine Ye (ZK hib ?_)
     have m2:=sB _ _ _ m hib (λy hy=>Int.le_trans (Int.le_of_lt hv) (hdA ia (by omega) y hy))
     refine Zq (λh3=>?_) (λh3=>?_)
     ·exact Yg ⟨⟨_,rfl⟩,.inl ⟨_,rfl,hdone _ _ _ m2 (by simp at h3⊢;omega)⟩⟩
     ·have h3':ib+1≠b.size:=λz=>h3 (by simp[z])
      refine Zq (λh4=>?_) (λh4=>?_)
      ·exact Yg ⟨⟨_,rfl⟩,.inr ⟨rfl,m2,hia,by simp only;omega,by simp only;omega⟩⟩
      ·exact Yg ⟨⟨_,rfl⟩,rfl,m2,hia,by simp only;omega,by simp only;omega⟩
    ·have hv:¬ ky b[ib]<ky a[ia]:=λz=>hv (YC z)
     refine Ye (ZK (by omega:ia<a.size) ?_)
     have m2:=sA _ _ _ m (by omega) (λy hy=>Int.le_trans (Int.not_lt.mp hv) (hdB ib hib y hy))
     refine Zq (λh3=>?_) (λh3=>?_)
     ·exact Yg ⟨⟨_,rfl⟩,.inl ⟨_,rfl,hlast _ _ _ m2 (by simpa using h3)⟩⟩
     ·have h3':ia+1+1≠a.size:=λz=>h3 (by simp[z])
      refine Zq (λh4=>?_) (λh4=>?_)
      ·exact Yg ⟨⟨_,rfl⟩,.inr ⟨rfl,m2,by simp only;omega,hib,by simp only;omega⟩⟩
      ·exact Yg ⟨⟨_,rfl⟩,rfl,m2,by simp only;omega,hib,by simp only;omega⟩
   ·rintro⟨r,out,ia,ib,ac,bc⟩ st' ⟨hg,e,m,hia,hib,hti⟩
    exact⟨hg,.inr ⟨e,m,hia,hib,hti⟩⟩
   ·rintro⟨r,out,ia,ib,ac,bc⟩ st' ⟨⟨g2,rfl⟩,hor⟩
    rcases hor with⟨res,e,hgd⟩|⟨e,m,hia,hib,hti⟩
    ·simp only at e
     subst e
     exact Yg ⟨⟨_,rfl⟩,res,rfl,hgd⟩
    ·simp only at e m hia hib hti
     subst e
     refine Ye (wpS_lift (wpAny_rule ⟨rfl,?_⟩))
     refine Ye (wpS_mono (Q:=λ(c:Option (Array Keyed)×Array Keyed×Nat×Nat×Nat×Nat×Nat) (st':SortSt)=>(∃g',st'=SortSt.mk' κ arr pd g' fl)/\((∃res,c.1=some res/\Gd ky a.toList b.toList res.toList)\/(c.1=none/\Mg ky a.toList b.toList c.2.1.toList c.2.2.1 c.2.2.2.1/\c.2.2.1+1<a.size/\c.2.2.2.1<b.size/\t+1<c.2.2.1+c.2.2.2.1))) (wpS_forRange (λ(u:Nat) (c:Option (Array Keyed)×Array Keyed×Nat×Nat×Nat×Nat×Nat) (st':SortSt)=>(∃g',st'=SortSt.mk' κ arr pd g' fl)/\c.1=none/\Mg ky a.toList b.toList c.2.1.toList c.2.2.1 c.2.2.2.1/\c.2.2.1+1<a.size/\c.2.2.2.1<b.size/\t+u<c.2.2.1+c.2.2.2.1) ?_ ?_ ⟨⟨g2,rfl⟩,rfl,m,hia,hib,hti⟩) ?_)
     ·rintro u c st' _ hu ⟨⟨g1,rfl⟩,e,m,hia,hib,hti⟩
      refine Zq (λ_=>?_) (λ_=>?_)
      all_goals
       refine Ye (wpS_modify ?_)
       refine Ye (ZK hib ?_)
       refine Ye (ZbX (f:=λi=>!decide (ky b[c.2.2.2.1]<ky (a.getD (c.2.2.1+i) (Value.none,Value.none)))) hc rfl (hPb _ _) hPa (by omega) (by omega) (λi h=>by simp[Array.getD,h]) ?_ ?_)
       ·intro i j hij hj hfj
        simp only[Bool.not_eq_true',decide_eq_false_iff_not,Int.not_lt]at hfj⊢
        have:=moA (c.2.2.1+i) (c.2.2.1+j) (by omega) (by omega)
        simp only[Array.getD,(by omega:c.2.2.1+i<a.size),(by omega:c.2.2.1+j<a.size),dif_pos]at hfj⊢
        exact Int.le_trans this hfj
       ·intro k hk1 hk2 hk3
        have hA1:∀i,(h:c.2.2.1+i<a.size)->i<k->ky a[c.2.2.1+i]<=ky b[c.2.2.2.1]:=by
         intro i h hi
         have:=hk2 i hi
         simp only[Bool.not_eq_true',decide_eq_false_iff_not,Int.not_lt,Array.getD,h,dif_pos]at this
         exact this
        have hA2:(h:c.2.2.1+k<a.size)->ky b[c.2.2.2.1]<ky a[c.2.2.1+k]:=by
         intro h
         have:=hk3 k (Yf _) (by omega)
         simp only[Bool.not_eq_false',decide_eq_true_eq,Array.getD,h,dif_pos]at this
         exact this
        have m2:=bA _ _ _ k m (by omega) (λi h hi y hy=>Int.le_trans (hA1 i h hi) (hdB _ hib y hy))
        refine Zq (λhk0=>Zq (λh3=>Yg ⟨⟨_,rfl⟩,.inl ⟨_,rfl,hlast _ _ _ m2 (by simpa using h3)⟩⟩) (λh3=>Zq (λh4=>Yg ⟨⟨_,rfl⟩,.inl ⟨_,rfl,hdone2 _ _ _ m2 (by simp at h4⊢;omega)⟩⟩) (λh4=>?_))) (λhk0=>?_)
        focus
         have h3':c.2.2.1+k+1≠a.size:=λz=>h3 (by simp[z])
         have h4':c.2.2.1+k≠a.size:=λz=>h4 (by simp[z])
         have m':=m2
         have hlt:c.2.2.1+k<a.size:=by omega
         have hlt2:c.2.2.1+k+1<a.size:=by omega
         have hx':=hA2 hlt
         have ht':t+u<c.2.2.1+k+c.2.2.2.1:=by omega
         have hd':=hdA _ hlt
         obtain⟨y,hy⟩:∃y,y=ky a[c.2.2.1+k]:=⟨_,rfl⟩
        rotate_left
        focus
         have hk0':k=0:=by omega
         subst hk0'
         have m':=m
         have hlt:c.2.2.1<a.size:=by omega
         have hlt2:c.2.2.1+1<a.size:=by omega
         have hx':=hA2 hlt
         have ht':t+u<c.2.2.1+c.2.2.2.1:=by omega
         have hd':=hdA _ hlt
         obtain⟨y,hy⟩:∃y,y=ky a[c.2.2.1]:=⟨_,rfl⟩
        all_goals
         refine Ye (ZK hib ?_)
         have m3:=sB _ _ _ m' hib (λz hz=>Int.le_trans (Int.le_of_lt hx') (hd' z hz))
         refine Zq (λh5=>Yg ⟨⟨_,rfl⟩,.inl ⟨_,rfl,hdone _ _ _ m3 (by simp at h5⊢;omega)⟩⟩) (λh5=>?_)
         have h5':c.2.2.2.1+1≠b.size:=λz=>h5 (by simp[z])
         refine Ye (ZK hlt ?_)
         refine Ye (ZbX (f:=λi=>decide (ky (b.getD (c.2.2.2.1+1+i) (Value.none,Value.none))<y)) hc rfl (hPa _ _) hPb (by omega) (by omega) (λi h=>by simp[Array.getD,h,hy]) ?_ ?_)
         ·intro i j hij hj hfj
          simp only[decide_eq_true_eq]at hfj⊢
          have:=moB (c.2.2.2.1+1+i) (c.2.2.2.1+1+j) (by omega) (by omega)
          simp only[Array.getD,(by omega:c.2.2.2.1+1+i<b.size),(by omega:c.2.2.2.1+1+j<b.size),dif_pos]at hfj⊢
          exact Int.lt_of_le_of_lt this hfj
         ·intro k2 q1 q2 q3
          have hB1:∀i,(h:c.2.2.2.1+1+i<b.size)->i<k2->ky b[c.2.2.2.1+1+i]<y:=by
           intro i h hi
           have:=q2 i hi
           simp only[decide_eq_true_eq,Array.getD,h,dif_pos]at this
           exact this
          have hB2:(h:c.2.2.2.1+1+k2<b.size)->y<=ky b[c.2.2.2.1+1+k2]:=by
           intro h
           have:=q3 k2 (Yf _) (by omega)
           simp only[decide_eq_false_iff_not,Int.not_lt,Array.getD,h,dif_pos]at this
           exact this
          have m4:=bB _ _ _ k2 m3 (by omega) (λi h hi z hz=>Int.le_trans (Int.le_of_lt (hB1 i h hi)) (hy▸hd' z hz))
          refine Zq (λq0=>Zq (λh6=>Yg ⟨⟨_,rfl⟩,.inl ⟨_,rfl,hdone _ _ _ m4 (by simp at h6⊢;omega)⟩⟩) (λh6=>?_)) (λq0=>?_)
          focus
           have h6':c.2.2.2.1+1+k2≠b.size:=λz=>h6 (by simp[z])
           have hl2:c.2.2.2.1+1+k2<b.size:=by omega
           have m5:=sA _ _ _ m4 hlt (λz hz=>Int.le_trans (hy▸hB2 hl2) (hdB _ hl2 z hz))
          rotate_left
          focus
           have q0':k2=0:=by omega
           subst q0'
           have hl2:c.2.2.2.1+1<b.size:=by omega
           have m5:=sA _ _ _ m3 hlt (λz hz=>Int.le_trans (hy▸hB2 hl2) (hdB _ hl2 z hz))
          all_goals
           refine Ye (ZK hlt ?_)
           refine Zq (λh7=>Yg ⟨⟨_,rfl⟩,.inl ⟨_,rfl,hlast _ _ _ m5 (by simpa using h7)⟩⟩) (λh7=>?_)
           simp only[beq_iff_eq]at h7
           refine Zq (λh8=>Yg ⟨⟨_,rfl⟩,.inr ⟨rfl,m5,by simp only;omega,hl2,by simp only;omega⟩⟩) (λh8=>Yg ⟨⟨_,rfl⟩,rfl,m5,by simp only;omega,hl2,by simp only;omega⟩)
     ·rintro⟨r,out,ia,ib,mg,ac,bc⟩ st' ⟨hg,e,m,hia,hib,hti⟩
      exact⟨hg,.inr ⟨e,m,hia,hib,by simp only at hti⊢;omega⟩⟩
     ·rintro⟨r,out,ia,ib,mg,ac,bc⟩ st' ⟨⟨g3,rfl⟩,hor⟩
      rcases hor with⟨res,e,hgd⟩|⟨e,m,hia,hib,hti⟩
      ·simp only at e
       subst e
       exact Yg ⟨⟨_,rfl⟩,res,rfl,hgd⟩
      ·simp only at e m hia hib hti
       subst e
       exact Ye (wpS_modify (Yg ⟨⟨_,rfl⟩,rfl,m,hia,hib,hti⟩))
  ·rintro⟨r,out,ia,ib,mg⟩ st' ⟨_,e,m,hia,hib,hti⟩
   simp only at hia hib hti
   omega
  ·rintro⟨r,out,ia,ib,mg⟩ st' ⟨⟨g2,rfl⟩,res,e,hgd⟩
   simp only at e
   subst e
   exact Yg (hQ res g2 hgd)
end
section
variable {ky:Keyed->Int}
theorem Zdo {l:List Keyed}:Srt (λx=>- ky x) l.reverse↔Srt ky l:=by
 unfold Srt
 rw[List.pairwise_reverse]
 constructor
 ·exact λh=>h.imp λz=>by simp only at z;omega
 ·exact λh=>h.imp λz=>by simp only;omega
theorem ZlU {a b l:List Keyed} (h:Gd (λx=>- ky x) a.reverse b.reverse l):Gd ky a b l.reverse:=by
 refine⟨(List.reverse_perm l).trans (h.1.trans (List.Perm.append (List.reverse_perm a) (List.reverse_perm b))),?_⟩
 rw[<-Zdo,List.reverse_reverse]
 exact h.2
theorem Zjk {a:Array Keyed}{na:Nat} (h:na<=a.size):a.toList.reverse.drop (a.size-na)=(a.toList.take na).reverse:=by
 rw[List.drop_reverse]
 congr 2
 simp;omega
theorem rmem {a:Array Keyed}{na:Nat} (h:na<=a.size) {y:Keyed} (hy:y∈a.toList.reverse.drop (a.size-na)):∃i,∃hi:i<a.size,i<na/\y=a[i]:=by
 rw[Zjk h,List.mem_reverse,List.mem_take_iff_getElem]at hy
 obtain⟨i,hi,e⟩:=hy
 exact⟨i,by simp at hi;omega,by simp at hi;omega,by simpa using e.symm⟩
noncomputable def MM (ky:Keyed->Int) (a b out:Array Keyed) (na nb:Nat):Prop:=Mg (λx=>- ky x) a.toList.reverse b.toList.reverse out.toList (a.size-na) (b.size-nb)
variable {a b out:Array Keyed}{na nb:Nat}
theorem MM.swap (h:MM ky a b out na nb):MM ky b a out nb na:=Mg.swap h
theorem MM.sA (ha:Srt ky a.toList) (m:MM ky a b out na nb) (h1:1<=na) (h2:na<=a.size) (hb:nb<=b.size) (hle:∀i,(h:i<b.size)->i<nb->ky b[i]<=ky (a[na-1]'(by omega))):MM ky a b (out.push (a[na-1]'(by omega))) (na-1) nb:=by
 have hl:a.size-na<a.toList.reverse.length:=by simp;omega
 have e:a.toList.reverse[a.size-na]=a[na-1]'(by omega):=by
  rw[List.getElem_reverse]
  simp only[YK,Array.getElem_toList]
  congr 1;omega
 have:=Mg.ZmS (Zdo.mpr ha) m hl (by
  intro y hy
  obtain⟨i,hi,hin,rfl⟩:=rmem hb hy
  rw[e]
  have:=hle i hi hin
  show-ky _<=- ky _;omega)
 rw[e]at this
 unfold MM
 rw[Array.toList_push,(by omega:a.size-(na-1)=a.size-na+1)]
 exact this
theorem MM.bA (ha:Srt ky a.toList) (m:MM ky a b out na nb) {at_:Nat} (h1:at_<=na) (h2:na<=a.size) (hb:nb<=b.size) (hle:∀j,(hj:j<a.size)->at_<=j->j<na->∀i,(h:i<b.size)->i<nb->ky b[i]<=ky a[j]):MM ky a b (out++(a.extract at_ na).reverse) at_ nb:=by
 have:=Mg.ZmT (Zdo.mpr ha) m (na-at_) (by simp;omega) (by
  intro i hi hik y hy
  obtain⟨j,hj,hjn,rfl⟩:=rmem hb hy
  have e:a.toList.reverse[a.size-na+i]=a[na-1-i]'(by omega):=by
   rw[List.getElem_reverse]
   simp only[YK,Array.getElem_toList]
   congr 1;omega
  rw[e]
  have:=hle (na-1-i) (by omega) (by omega) (by omega) j hj hjn
  show-ky _<=- ky _;omega)
 unfold MM
 rw[Array.toList_append,(by omega:a.size-at_=a.size-na+(na-at_))]
 have e2:(a.extract at_ na).reverse.toList=(a.toList.reverse.drop (a.size-na)).take (na-at_):=by
  rw[Zjk h2,List.take_reverse]
  simp only[Array.toList_reverse,Array.toList_extract,List.extract_eq_drop_take,YY,YK]
  rw[List.drop_take]
  congr 2
  ·omega
  ·congr 1;omega
 rw[e2]
 exact this
theorem MM.ZmU (hb:Srt ky b.toList) (m:MM ky a b out 0 nb) (hn:nb<=b.size):Gd ky a.toList b.toList (a.extract 0 0++b.extract 0 nb++out.reverse).toList:=by
 have:=ZlU (Mg.ZmU (Zdo.mpr hb) m (by simp))
 rw[Zjk hn,List.reverse_append,List.reverse_reverse]at this
 simpa using this
theorem MM.ZkS (ha:Srt ky a.toList) (m:MM ky a b out na 0) (hn:na<=a.size):Gd ky a.toList b.toList (a.extract 0 na++b.extract 0 0++out.reverse).toList:=by
 have:=ZlU (Mg.ZkS (Zdo.mpr ha) m (by simp))
 rw[Zjk hn,List.reverse_append,List.reverse_reverse]at this
 simpa using this
theorem MM.firstB (ha:Srt ky a.toList) (hb:Srt ky b.toList) (m:MM ky a b out na 1) (hn:na<=a.size) (hb1:1<=b.size) (h0:∀i,(h:i<a.size)->ky b[0]<=ky a[i]):Gd ky a.toList b.toList (b.extract 0 1++a.extract 0 na++out.reverse).toList:=by
 have:=Mg.lastA (Zdo.mpr hb) (Zdo.mpr ha) (Mg.swap m) (by
  intro y hy z hz
  obtain⟨i,hi,_,rfl⟩:=rmem hn hy
  obtain⟨j,hj,hj1,rfl⟩:=rmem hb1 hz
  have hj0:j=0:=by omega
  subst hj0
  have:=h0 i hi
  show-ky _<=- ky _;omega)
 have:=ZlU ⟨this.1.trans List.perm_append_comm,this.2⟩
 rw[Zjk hn,Zjk hb1,List.reverse_append,List.reverse_append,List.reverse_reverse,List.reverse_reverse,<-YI]at this
 simpa using this
variable {prog:Program}{w:World}{A:Around}{E:Value->Shared->Prop}{s:Shared}{κ:SortKind}{P:Keyed->Prop}
noncomputable def ZpA:Array Keyed->Array Keyed->StateT SortSt Sem (Array Keyed):=sortPriv% PySem.Builtin.mergeHi
theorem ZpB {a:Array Keyed} (ha:Srt ky a.toList) {i j:Nat} (hij:i<=j) (h:j<a.size):ky (a[i]'(by omega))<=ky a[j]:=by
 have:=ZhN (ia:=i) ha (by simp;omega) (y:=a[j]) (by rw[List.mem_drop_iff_getElem];exact⟨j-i,by simp;omega,by simp;congr 1;omega⟩)
 simpa using this
theorem ZlV {arr:Array Keyed}{pd:Array (Nat×Nat×Nat)}{g:Nat}{fl:Option Value}{Q:Array Keyed->SortSt->Prop}
  (hc:Zev prog w A s κ P ky) (hPa:∀i,(h:i<a.size)->P a[i]) (hPb:∀i,(h:i<b.size)->P b[i]) (ha:Srt ky a.toList) (hb:Srt ky b.toList)
  (ha0:0<a.size) (hb0:0<b.size) (h0:ky b[0]<=ky a[0]) (hl:∀j,(h:j<b.size)->ky b[j]<=ky (a[a.size-1]'(by omega)))
  (hQ:∀res g',Gd ky a.toList b.toList res.toList->Q res (SortSt.mk' κ arr pd g' fl)) :
  wpS (model prog w) A E s (ZpA a b) Q (SortSt.mk' κ arr pd g fl):=by
 refine Ye (wpS_lift (wpAny_rule ⟨rfl,?_⟩))
 refine Ye (ZK (by omega:a.size-1<a.size) ?_)
 have moA:∀i j,(hij:i<=j)->(h:j<a.size)->ky (a[i]'(by omega))<=ky a[j]:=λi j hij h=>ZpB ha hij h
 have moB:∀i j,(hij:i<=j)->(h:j<b.size)->ky (b[i]'(by omega))<=ky b[j]:=λi j hij h=>ZpB hb hij h
 have h0':∀i,(h:i<a.size)->ky b[0]<=ky a[i]:=λi h=>Int.le_trans h0 (moA 0 i (by omega) h)
 have m0:MM ky a b #[] a.size b.size:=by
  refine⟨by simp,List.Pairwise.nil,λx hx=>by cases hx⟩
 have m1:MM ky a b #[a[a.size-1]] (a.size-1) b.size:=m0.sA ha ha0 (Yf _) (Yf _) (λi h _=>hl i h)
 have dA:∀(out:Array Keyed) na nb,MM ky a b out na nb->nb<=b.size->na=0->Gd ky a.toList b.toList (a.extract 0 na++b.extract 0 nb++out.reverse).toList:=by
  rintro out na nb m h rfl;exact m.ZmU hb h
 have dB:∀(out:Array Keyed) na nb,MM ky a b out na nb->na<=a.size->nb=0->Gd ky a.toList b.toList (a.extract 0 na++b.extract 0 nb++out.reverse).toList:=by
  rintro out na nb m h rfl;exact m.ZkS ha h
 have fB:∀(out:Array Keyed) na nb,MM ky a b out na nb->na<=a.size->nb=1->Gd ky a.toList b.toList (b.extract 0 nb++a.extract 0 na++out.reverse).toList:=by
  rintro out na nb m h rfl;exact m.firstB ha hb h hb0 h0'
 refine Zq (λh1=>?_) (λh1=>Zq (λh2=>?_) (λh2=>?_))
 ·exact Yg (hQ _ _ (dA _ _ _ m1 (Yf _) (by simpa using h1)))
 ·exact Yg (hQ _ _ (fB _ _ _ m1 (by omega) (by simpa using h2)))
 ·simp only[beq_iff_eq]at h1 h2
  refine Ye (wpS_get ?_)
  refine Ye (wpS_mono (Q:=λ(c:Option (Array Keyed)×Nat×Nat×Array Keyed×Nat) (st':SortSt)=>(∃g',st'=SortSt.mk' κ arr pd g' fl)/\∃res,c.1=some res/\Gd ky a.toList b.toList res.toList) (wpS_forRange (λ(t:Nat) (c:Option (Array Keyed)×Nat×Nat×Array Keyed×Nat) (st':SortSt)=>(∃g',st'=SortSt.mk' κ arr pd g' fl)/\c.1=none/\MM ky a b c.2.2.2.1 c.2.1 c.2.2.1/\(1<=c.2.1/\c.2.1<=a.size)/\(2<=c.2.2.1/\c.2.2.1<=b.size)/\t+c.2.1+c.2.2.1<a.size+b.size) ?_ ?_ ⟨⟨g,rfl⟩,rfl,m1,by simp only;omega,by simp only;omega,by simp only;omega⟩) ?_)
  ·rintro t c0 st' _ ht ⟨⟨g1,rfl⟩,e,m,hia,hib,hti⟩
   refine Ye (wpS_mono (Q:=λ(c:Option (Array Keyed)×Nat×Nat×Array Keyed×Nat×Nat) (st':SortSt)=>(∃g',st'=SortSt.mk' κ arr pd g' fl)/\((∃res,c.1=some res/\Gd ky a.toList b.toList res.toList)\/(c.1=none/\MM ky a b c.2.2.2.1 c.2.1 c.2.2.1/\(1<=c.2.1/\c.2.1<=a.size)/\(2<=c.2.2.1/\c.2.2.1<=b.size)/\t+c.2.1+c.2.2.1<a.size+b.size))) (wpS_forRange (λ(u:Nat) (c:Option (Array Keyed)×Nat×Nat×Array Keyed×Nat×Nat) (st':SortSt)=>(∃g',st'=SortSt.mk' κ arr pd g' fl)/\c.1=none/\MM ky a b c.2.2.2.1 c.2.1 c.2.2.1/\(1<=c.2.1/\c.2.1<=a.size)/\(2<=c.2.2.1/\c.2.2.1<=b.size)/\t+c.2.1+c.2.2.1<a.size+b.size) ?_ ?_ ⟨⟨g1,rfl⟩,rfl,m,hia,hib,hti⟩) ?_)
   ·rintro u c st' _ hu ⟨⟨g1,rfl⟩,e,m,hia,hib,hti⟩
    have l1:c.2.1-1<a.size:=by omega
    have l2:c.2.2.1-1<b.size:=by omega
    refine Ye (ZK l2 ?_)
    refine Ye (ZK l1 ?_)
    refine Ye (ZkR hc rfl (hPb _ _) (hPa _ _) ?_)
    refine Zq (λhv=>?_) (λhv=>?_)
    ·have hv:=YV hv
     refine Ye (ZK l1 ?_)
     have m2:=m.sA ha hia.1 hia.2 hib.2 (λi h hi=>Int.le_trans (moB i (c.2.2.1-1) (by omega) l2) (Int.le_of_lt hv))
     refine Zq (λh3=>?_) (λh3=>?_)
     ·exact Yg ⟨⟨_,rfl⟩,.inl ⟨_,rfl,dA _ _ _ m2 hib.2 (by simpa using h3)⟩⟩
     ·simp only[beq_iff_eq]at h3
      refine Zq (λh4=>?_) (λh4=>?_)
      ·exact Yg ⟨⟨_,rfl⟩,.inr ⟨rfl,m2,by simp only;omega,hib,by simp only;omega⟩⟩
      ·exact Yg ⟨⟨_,rfl⟩,rfl,m2,by simp only;omega,hib,by simp only;omega⟩
    ·have hv:¬ ky b[c.2.2.1-1]<ky a[c.2.1-1]:=λz=>hv (YC z)
     refine Ye (ZK l2 ?_)
     have m2:=(m.swap.sA hb (by omega) hib.2 hia.2 (λi h hi=>Int.le_trans (moA i (c.2.1-1) (by omega) l1) (Int.not_lt.mp hv))).swap
     refine Zq (λh3=>?_) (λh3=>?_)
     ·exact Yg ⟨⟨_,rfl⟩,.inl ⟨_,rfl,fB _ _ _ m2 hia.2 (by simpa using h3)⟩⟩
     ·simp only[beq_iff_eq]at h3
      refine Zq (λh4=>?_) (λh4=>?_)
      ·exact Yg ⟨⟨_,rfl⟩,.inr ⟨rfl,m2,hia,by simp only;omega,by simp only;omega⟩⟩
      ·exact Yg ⟨⟨_,rfl⟩,rfl,m2,hia,by simp only;omega,by simp only;omega⟩
   ·rintro c st' ⟨hg,e,m,hia,hib,hti⟩
    exact⟨hg,.inr ⟨e,m,hia,hib,hti⟩⟩
   ·rintro⟨r,na,nb,out,ac,bc⟩ st' ⟨⟨g2,rfl⟩,hor⟩
    rcases hor with⟨res,e,hgd⟩|⟨e,m,hia,hib,hti⟩
    ·simp only at e
     subst e
     exact Yg ⟨⟨_,rfl⟩,res,rfl,hgd⟩
    ·simp only at e m hia hib hti
     subst e
     refine Ye (wpS_lift (wpAny_rule ⟨rfl,?_⟩))
     refine Ye (wpS_mono (Q:=λ(c:Option (Array Keyed)×Nat×Nat×Array Keyed×Nat×Nat×Nat) (st':SortSt)=>(∃g',st'=SortSt.mk' κ arr pd g' fl)/\((∃res,c.1=some res/\Gd ky a.toList b.toList res.toList)\/(c.1=none/\MM ky a b c.2.2.2.1 c.2.1 c.2.2.1/\(1<=c.2.1/\c.2.1<=a.size)/\(2<=c.2.2.1/\c.2.2.1<=b.size)/\t+1+c.2.1+c.2.2.1<a.size+b.size))) (wpS_forRange (λ(u:Nat) (c:Option (Array Keyed)×Nat×Nat×Array Keyed×Nat×Nat×Nat) (st':SortSt)=>(∃g',st'=SortSt.mk' κ arr pd g' fl)/\c.1=none/\MM ky a b c.2.2.2.1 c.2.1 c.2.2.1/\(1<=c.2.1/\c.2.1<=a.size)/\(2<=c.2.2.1/\c.2.2.1<=b.size)/\t+u+c.2.1+c.2.2.1<a.size+b.size) ?_ ?_ ⟨⟨g2,rfl⟩,rfl,m,hia,hib,hti⟩) ?_)
     ·rintro u c st' _ hu ⟨⟨g1,rfl⟩,e,m,hia,hib,hti⟩
      have l2:c.2.2.1-1<b.size:=by omega
      refine Zq (λ_=>?_) (λ_=>?_)
      all_goals
       refine Ye (wpS_modify ?_)
       refine Ye (ZK l2 ?_)
       refine Ye (ZbX (f:=λi=>!decide (ky b[c.2.2.1-1]<ky (a.getD (0+i) (Value.none,Value.none)))) hc rfl (hPb _ _) hPa (by omega) (by omega) (λi h=>by simp only[Array.getD,h,dif_pos];simp) ?_ ?_)
       ·intro i j hij hj hfj
        simp only[Bool.not_eq_true',decide_eq_false_iff_not,Int.not_lt]at hfj⊢
        have:=moA (0+i) (0+j) (by omega) (by omega)
        simp only[Array.getD,(by omega:0+i<a.size),(by omega:0+j<a.size),dif_pos]at hfj⊢
        exact Int.le_trans this hfj
       ·intro k hk1 hk2 hk3
        have hA1:∀i,(h:i<a.size)->i<k->ky a[i]<=ky b[c.2.2.1-1]:=by
         intro i h hi
         have:=hk2 i hi
         simp only[Bool.not_eq_true',decide_eq_false_iff_not,Int.not_lt,Array.getD,Nat.zero_add,h,dif_pos]at this
         exact this
        have hA2:∀i,(h:i<a.size)->k<=i->i<c.2.1->ky b[c.2.2.1-1]<ky a[i]:=by
         intro i h hi1 hi2
         have:=hk3 i hi1 hi2
         simp only[Bool.not_eq_false',decide_eq_true_eq,Array.getD,Nat.zero_add,h,dif_pos]at this
         exact this
        have m2:=m.bA ha hk1 hia.2 hib.2 (λj hj h1 h2 i h hi=>Int.le_trans (moB i (c.2.2.1-1) (by omega) l2) (Int.le_of_lt (hA2 j hj h1 h2)))
        refine Zq (λhk0=>Zq (λh3=>Yg ⟨⟨_,rfl⟩,.inl ⟨_,rfl,dA _ _ _ m2 hib.2 (by simpa using h3)⟩⟩) (λh3=>?_)) (λhk0=>?_)
        focus
         simp only[beq_iff_eq]at h3
         have m':=m2
         have n1:1<=k:=by omega
         have n2:k<=a.size:=by omega
         have l1:k-1<a.size:=by omega
         have hx':∀i,(h:i<a.size)->i<k->ky a[i]<=ky b[c.2.2.1-1]:=hA1
         have ht':t+u+k+c.2.2.1<a.size+b.size:=by omega
         obtain⟨y,hy⟩:∃y,y=ky a[k-1]:=⟨_,rfl⟩
         have hy2:∀i,(h:i<a.size)->i<k->ky a[i]<=y:=λi h hi=>hy▸moA i (k-1) (by omega) l1
        rotate_left
        focus
         have hk0':k=c.2.1:=by omega
         subst hk0'
         have m':=m
         have n1:1<=c.2.1:=by omega
         have n2:c.2.1<=a.size:=by omega
         have l1:c.2.1-1<a.size:=by omega
         have hx':∀i,(h:i<a.size)->i<c.2.1->ky a[i]<=ky b[c.2.2.1-1]:=hA1
         have ht':t+u+c.2.1+c.2.2.1<a.size+b.size:=by omega
         obtain⟨y,hy⟩:∃y,y=ky a[c.2.1-1]:=⟨_,rfl⟩
         have hy2:∀i,(h:i<a.size)->i<c.2.1->ky a[i]<=y:=λi h hi=>hy▸moA i (c.2.1-1) (by omega) l1
        all_goals
         refine Ye (ZK l2 ?_)
         have m3:=(m'.swap.sA hb (by omega) hib.2 n2 hx').swap
         refine Zq (λh5=>Yg ⟨⟨_,rfl⟩,.inl ⟨_,rfl,fB _ _ _ m3 n2 (by simpa using h5)⟩⟩) (λh5=>?_)
         simp only[beq_iff_eq]at h5
         refine Ye (ZK l1 ?_)
         refine Ye (ZbX (f:=λi=>decide (ky (b.getD (0+i) (Value.none,Value.none))<y)) hc rfl (hPa _ _) hPb (by omega) (by omega) (λi h=>by simp only[Array.getD,h,dif_pos,hy];simp) ?_ ?_)
         ·intro i j hij hj hfj
          simp only[decide_eq_true_eq]at hfj⊢
          have:=moB (0+i) (0+j) (by omega) (by omega)
          simp only[Array.getD,(by omega:0+i<b.size),(by omega:0+j<b.size),dif_pos]at hfj⊢
          exact Int.lt_of_le_of_lt this hfj
         ·intro k2 q1 q2 q3
          have hB1:∀i,(h:i<b.size)->i<k2->ky b[i]<y:=by
           intro i h hi
           have:=q2 i hi
           simp only[decide_eq_true_eq,Array.getD,Nat.zero_add,h,dif_pos]at this
           exact this
          have hB2:∀i,(h:i<b.size)->k2<=i->i<c.2.2.1-1->y<=ky b[i]:=by
           intro i h hi1 hi2
           have:=q3 i hi1 hi2
           simp only[decide_eq_false_iff_not,Int.not_lt,Array.getD,Nat.zero_add,h,dif_pos]at this
           exact this
          have m4:=(m3.swap.bA hb q1 (by omega) n2 (λj hj h1 h2 i h hi=>Int.le_trans (hy2 i h hi) (hB2 j hj h1 h2))).swap
          refine Zq (λq0=>Zq (λh6=>Yg ⟨⟨_,rfl⟩,.inl ⟨_,rfl,fB _ _ _ m4 n2 (by simpa using h6)⟩⟩) (λh6=>Zq (λh7=>Yg ⟨⟨_,rfl⟩,.inl ⟨_,rfl,dB _ _ _ m4 n2 (by simpa using h7)⟩⟩) (λh7=>?_))) (λq0=>?_)
          focus
           simp only[beq_iff_eq]at h6 h7
           have hl2:2<=k2/\k2<=b.size:=by omega
           have m5:=m4.sA ha n1 n2 hl2.2 (λi h hi=>Int.le_of_lt (hy▸hB1 i h hi))
           have hlt:k2+1<=c.2.2.1:=by omega
          rotate_left
          focus
           have q0':k2=c.2.2.1-1:=by omega
           subst q0'
           have hl2:2<=c.2.2.1-1/\c.2.2.1-1<=b.size:=by omega
           have m5:=m3.sA ha n1 n2 hl2.2 (λi h hi=>Int.le_of_lt (hy▸hB1 i h hi))
           have hlt:c.2.2.1-1+1<=c.2.2.1:=by omega
          all_goals
           refine Ye (ZK l1 ?_)
           refine Zq (λh8=>Yg ⟨⟨_,rfl⟩,.inl ⟨_,rfl,dA _ _ _ m5 hl2.2 (by simpa using h8)⟩⟩) (λh8=>?_)
           simp only[beq_iff_eq]at h8
           refine Zq (λh9=>Yg ⟨⟨_,rfl⟩,.inr ⟨rfl,m5,by simp only;omega,hl2,by simp only;omega⟩⟩) (λh9=>Yg ⟨⟨_,rfl⟩,rfl,m5,by simp only;omega,hl2,by simp only;omega⟩)
     ·rintro c st' ⟨hg,e,m,hia,hib,hti⟩
      exact⟨hg,.inr ⟨e,m,hia,hib,by omega⟩⟩
     ·rintro⟨r,na,nb,out,mg,ac,bc⟩ st' ⟨⟨g3,rfl⟩,hor⟩
      rcases hor with⟨res,e,hgd⟩|⟨e,m,hia,hib,hti⟩
      ·simp only at e
       subst e
       exact Yg ⟨⟨_,rfl⟩,res,rfl,hgd⟩
      ·simp only at e m hia hib hti
       subst e
       exact Ye (wpS_modify (Yg ⟨⟨_,rfl⟩,rfl,m,hia,hib,by simp only;omega⟩))
  ·rintro c st' ⟨_,e,m,hia,hib,hti⟩
   omega
  ·rintro⟨r,na,nb,out,mg⟩ st' ⟨⟨g2,rfl⟩,res,e,hgd⟩
   simp only at e
   subst e
   exact Yg (hQ res g2 hgd)
end
section
variable {ky:Keyed->Int}
noncomputable def kp (ky:Keyed->Int) (a:Array Keyed) (i:Nat):Int:=ky (a.getD i (Value.none,Value.none))
theorem ZhO {a:Array Keyed}{i:Nat} (h:i<a.size):kp ky a i=ky a[i]:=by unfold kp;simp[Array.getD,h]
theorem Zc4 {a b:Array Keyed}{i j:Nat} (h:a[i]?=b[j]?):kp ky a i=kp ky b j:=by
 unfold kp;rw[Array.getD_eq_getD_getElem?,Array.getD_eq_getD_getElem?,h]
noncomputable def SoR (ky:Keyed->Int) (a:Array Keyed) (l r:Nat):Prop:=∀i j,l<=i->i<=j->j<r->kp ky a i<=kp ky a j
noncomputable def DeR (ky:Keyed->Int) (a:Array Keyed) (l r:Nat):Prop:=∀i j,l<=i->i<=j->j<r->kp ky a j<=kp ky a i
theorem SoR.next {a:Array Keyed}{l r:Nat} (h:SoR ky a l r) (hr:l<r) (h2:kp ky a (r-1)<=kp ky a r):SoR ky a l (r+1):=by
 intro i j hi hij hj
 by_cases e:j=r
 ·subst e
  by_cases e2:i=j
  ·rw[e2];exact Int.le_refl _
  ·exact Int.le_trans (h i (j-1) hi (by omega) (by omega)) h2
 ·exact h i j hi hij (by omega)
theorem DeR.next {a:Array Keyed}{l r:Nat} (h:DeR ky a l r) (hr:l<r) (h2:kp ky a r<=kp ky a (r-1)):DeR ky a l (r+1):=by
 intro i j hi hij hj
 by_cases e:j=r
 ·subst e
  by_cases e2:i=j
  ·rw[e2];exact Int.le_refl _
  ·exact Int.le_trans h2 (h i (j-1) hi (by omega) (by omega))
 ·exact h i j hi hij (by omega)
theorem SoR.congr {a a':Array Keyed}{l r:Nat} (h:SoR ky a l r) (e:∀i,l<=i->i<r->kp ky a' i=kp ky a i):SoR ky a' l r:=by
 intro i j hi hij hj
 rw[e i hi (by omega),e j (by omega) hj]
 exact h i j hi hij hj
theorem DeR.congr {a a':Array Keyed}{l r:Nat} (h:DeR ky a l r) (e:∀i,l<=i->i<r->kp ky a' i=kp ky a i):DeR ky a' l r:=by
 intro i j hi hij hj
 rw[e i hi (by omega),e j (by omega) hj]
 exact h i j hi hij hj
theorem ZgF {a:Array Keyed}{i j:Nat} (hj:j<=a.size) (x:Nat):kp ky (mirror a i j ((j-i) / 2)) x=if i<=x/\x<j then kp ky a (i+j-1-x)else kp ky a x:=by
 have e:=getElem?_mirror_all (xs:=a) (i:=i) hj x
 by_cases h:i<=x/\x<j
 ·rw[Yd h]at e⊢;exact Zc4 e
 ·rw[Yb h]at e⊢;exact Zc4 e
theorem Zdp {a:Array Keyed}{i j:Nat} (hj:j<=a.size) (heq:∀x,i<=x->x<j->kp ky a x=kp ky a (j-1)) (x:Nat):kp ky (mirror a i j ((j-i) / 2)) x=kp ky a x:=by
 rw[ZgF hj]
 split
 ·rw[heq _ (by omega) (by omega),heq x (by omega) (by omega)]
 ·rfl
theorem ZpC {a:Array Keyed}{src d:Nat} (hs:src<a.size) (hd:d<=src) (x:Nat):kp ky (bubble a src d) x=if x=src-d then kp ky a src else if src-d<x/\x<=src then kp ky a (x-1)else kp ky a x:=by
 have e:=getElem?_bubble hs d hd x
 by_cases h1:x=src-d
 ·rw[Yd h1]at e⊢;exact Zc4 e
 ·rw[Yb h1]at e⊢
  by_cases h2:src-d<x/\x<=src
  ·rw[Yd h2]at e⊢;exact Zc4 e
  ·rw[Yb h2]at e⊢;exact Zc4 e
structure Chg (a a':Array Keyed) (l r:Nat):Prop where
 perm:a'.Perm a
 same:∀i,i<l\/r<=i->a'[i]?=a[i]?
theorem Chg.refl (a:Array Keyed) (l r:Nat):Chg a a l r:=⟨Array.Perm.refl _,λ_ _=>rfl⟩
theorem Chg.trans {a b c:Array Keyed}{l r:Nat} (h1:Chg a b l r) (h2:Chg b c l r):Chg a c l r:=⟨h2.perm.trans h1.perm,λi h=>(h2.same i h).trans (h1.same i h)⟩
theorem Chg.wide {a b:Array Keyed}{l r l' r':Nat} (h:Chg a b l r) (h1:l'<=l) (h2:r<=r'):Chg a b l' r':=⟨h.perm,λi hi=>h.same i (by omega)⟩
theorem Chg.size {a b:Array Keyed}{l r:Nat} (h:Chg a b l r):b.size=a.size:=by
 have:=(Array.perm_iff_toList_perm.mp h.perm).length_eq;simpa using this
theorem Chg.kp {a b:Array Keyed}{l r:Nat} (h:Chg a b l r) {i:Nat} (hi:i<l\/r<=i):kp ky b i=kp ky a i:=Zc4 (h.same i hi)
theorem Zdq (a:Array Keyed) {i j:Nat} (hj:j<=a.size):Chg a (mirror a i j ((j-i) / 2)) i j:=by
 refine⟨mirror_perm a i j _,λk hk=>?_⟩
 rw[getElem?_mirror_all hj,Yb (by omega)]
theorem ZrB (a:Array Keyed) {src d:Nat} (hs:src<a.size) (hd:d<=src):Chg a (bubble a src d) (src-d) (src+1):=by
 refine⟨bubble_perm a src d,λk hk=>?_⟩
 rw[getElem?_bubble hs d hd,Yb (by omega),Yb (by omega)]
variable {prog:Program}{w:World}{A:Around}{E:Value->Shared->Prop}{s:Shared}{κ:SortKind}{P:Keyed->Prop}
noncomputable def AllP (P:Keyed->Prop) (a:Array Keyed):Prop:=∀x,x∈a->P x
theorem AllP.at {a:Array Keyed} (h:AllP P a) (i:Nat) (hi:i<a.size):P a[i]:=h _ (Array.getElem_mem hi)
theorem AllP.perm {a b:Array Keyed} (h:AllP P a) (e:b.Perm a):AllP P b:=λx hx=>h x ((Array.Perm.mem_iff e).mp hx)
theorem Zgc (hc:Zev prog w A s κ P ky) {a:Array Keyed}{pd:Array (Nat×Nat×Nat)}{g:Nat}{fl:Option Value} (hP:AllP P a) {i j:Nat}{Q:Option Bool->SortSt->Prop} (hi:i<a.size) (hj:j<a.size) (h:Q (some (decide (kp ky a i<kp ky a j))) (SortSt.mk' κ a pd g fl)):wpS (model prog w) A E s (ltAt' i j) Q (SortSt.mk' κ a pd g fl):=by
 rw[ltAt'_eq]
 refine Ye (wpS_get ?_)
 refine Ye (ZK hi ?_)
 refine Ye (ZK hj ?_)
 rw[ZhO hi,ZhO hj]at h
 exact ZkR hc rfl (hP.at _ hi) (hP.at _ hj) h
theorem ZhP {a:Array Keyed}{pd:Array (Nat×Nat×Nat)}{g:Nat}{fl:Option Value}{i j:Nat}{Q:Unit->SortSt->Prop} (h:Q () (SortSt.mk' κ (mirror a i j ((j-i) / 2)) pd g fl)):wpS (model prog w) A E s (reverseSlice' i j) Q (SortSt.mk' κ a pd g fl):=wpS_reverse h
theorem ZkT (hc:Zev prog w A s κ P ky) {a:Array Keyed}{pd:Array (Nat×Nat×Nat)}{g:Nat}{fl:Option Value} (hP:AllP P a) {lo nrem:Nat}{Q:Option Nat->SortSt->Prop} (hn:1<=nrem) (hs:lo+nrem<=a.size)
  (hQ:∀m a',1<=m->m<=nrem->Chg a a' lo (lo+nrem)->SoR ky a' lo (lo+m)->Q (some m) (SortSt.mk' κ a' pd g fl)):wpS (model prog w) A E s (countRun' lo nrem) Q (SortSt.mk' κ a pd g fl):=by
 have asc:∀(a:Array Keyed),AllP P a->lo+nrem<=a.size->∀n,1<=n->n<=nrem->SoR ky a lo (lo+n)->∀(body:Nat->Option (Option Nat)×Nat->StateT SortSt Sem (ForInStep (Option (Option Nat)×Nat))) (R:Option (Option Nat)×Nat->SortSt->Prop),
   (∀x c,body x c=do
    let r <-ltAt' (lo+c.2) (lo+c.2-1)
    match r with
    |some smaller=>if smaller=true then pure (ForInStep.done (none,c.2))else pure (ForInStep.yield (none,c.2+1))
    |x=>pure (ForInStep.done (some none,c.2))) ->
   (∀m,n<=m->m<=nrem->SoR ky a lo (lo+m)->(m<nrem->kp ky a (lo+m)<kp ky a (lo+m-1))->R (none,m) (SortSt.mk' κ a pd g fl))->wpS (model prog w) A E s (forIn [n:nrem] (none,n) body) R (SortSt.mk' κ a pd g fl):=by
  intro a hP hs n h1 h2 hS body R hbody hR
  refine wpS_forRange (λ(t:Nat) (c:Option (Option Nat)×Nat) (st':SortSt)=>st'=SortSt.mk' κ a pd g fl/\c=(none,t)/\SoR ky a lo (lo+t)) ?_ ?_ ⟨rfl,rfl,hS⟩
  ·rintro t c st' ht1 ht2 ⟨rfl,rfl,hSo⟩
   rw[hbody]
   refine Ye (Zgc hc hP (by simp only;omega) (by simp only;omega) ?_)
   refine Zq (λhv=>?_) (λhv=>?_)
   ·exact Yg (hR t ht1 (by omega) hSo (λ_=>YV hv))
   ·have hv:=λz=>hv (YC z)
    exact Yg ⟨rfl,rfl,SoR.next (r:=lo+t) hSo (by omega) (Int.not_lt.mp hv)⟩
  ·rintro c st' ⟨rfl,rfl,hSo⟩
   have:max n nrem=nrem:=by omega
   rw[this]at hSo⊢
   exact hR nrem h2 (Yf _) hSo (λz=>by omega)
 have one:SoR ky a lo (lo+1):=λi j hi hij hj=>by
  have:i=j:=by omega
  rw[this];exact Int.le_refl _
 rw[countRun'_eq]
 refine Ye (asc a hP hs 1 (Yf _) hn one _ _ (λx c=>rfl) ?_)
 intro n hn1 hn2 hSo hlast
 refine Zq (λh1=>?_) (λh1=>?_)
 ·exact Yg (hQ n a hn1 hn2 (Chg.refl _ _ _) hSo)
 ·simp only[beq_iff_eq]at h1
  have hl:=hlast (by omega)
  refine Zq (λh2=>Ye (Zgc hc hP (by omega) (by omega) (Zq (λh3=>Yg (hQ n a hn1 hn2 (Chg.refl _ _ _) hSo)) (λh3=>Ye (ZhP ?_))))) (λh2=>?_)
  focus
   have h3:¬ kp ky a lo<kp ky a (lo+n-1):=λz=>h3 (YC z)
   have heq:∀x,lo<=x->x<lo+n->kp ky a x=kp ky a (lo+n-1):=λx x1 x2=>by
    have:=hSo lo x (by omega) (by omega) x2
    have:=hSo x (lo+n-1) x1 (by omega) (by omega)
    omega
   have ek:=Zdp (ky:=ky) (i:=lo) (j:=lo+n) (by omega) heq
   have hC:=(Zdq a (i:=lo) (j:=lo+n) (by omega)).wide (l':=lo) (r':=lo+nrem) (Yf _) (by omega)
   have hD:DeR ky (mirror a lo (lo+n) ((lo+n-lo) / 2)) lo (lo+n+1):=by
    refine DeR.congr (a:=a) ?_ (λi _ _=>ek i)
    refine DeR.next (λi j hi hij hj=>?_) (by omega) (Int.le_of_lt hl)
    rw[heq i hi (by omega),heq j (by omega) hj];exact Int.le_refl _
  rotate_left
  focus
   have hn0:n=1:=by omega
   subst hn0
   have hC:=Chg.refl a lo (lo+nrem)
   have hD:DeR ky a lo (lo+1+1):=by
    refine DeR.next (λi j hi hij hj=>?_) (by omega) (Int.le_of_lt hl)
    have:i=j:=by omega
    rw[this];exact Int.le_refl _
  all_goals
   have hP1:=hP.perm hC.perm
   have hs1:=hC.size
   refine Ye (wpS_lift (wpAny_rule ⟨rfl,?_⟩))
   refine Ye (wpS_mono (Q:=λ(c:Option (Option Nat)×Nat×Nat) (st':SortSt)=>∃a',st'=SortSt.mk' κ a' pd g fl/\Chg a a' lo (lo+nrem)/\c.1=none/\1<=c.2.1/\c.2.1<=nrem/\DeR ky a' lo (lo+c.2.1)/\c.2.2+1<=c.2.1/\∀x,lo+c.2.1-(c.2.2+1)<=x->x<lo+c.2.1->kp ky a' x=kp ky a' (lo+c.2.1-1)) (wpS_forRange (λ(t:Nat) (c:Option (Option Nat)×Nat×Nat) (st':SortSt)=>∃a',st'=SortSt.mk' κ a' pd g fl/\Chg a a' lo (lo+nrem)/\c.1=none/\c.2.1=t/\DeR ky a' lo (lo+c.2.1)/\c.2.2+1<=c.2.1/\∀x,lo+c.2.1-(c.2.2+1)<=x->x<lo+c.2.1->kp ky a' x=kp ky a' (lo+c.2.1-1)) ?_ ?_ ⟨_,rfl,hC,rfl,rfl,hD,by simp only;omega,λx x1 x2=>by simp only at x1 x2⊢;congr 1;omega⟩) ?_)
   ·rintro t c st' ht1 ht2 ⟨a1,rfl,hC1,e1,e2,hD1,hq,heq⟩
    have hP2:=hP.perm hC1.perm
    have hs2:=hC1.size
    refine Ye (Zgc hc hP2 (by omega) (by omega) (Zq (λh3=>?_) (λh3=>Ye (Zgc hc hP2 (by omega) (by omega) (Zq (λh4=>?_) (λh4=>?_))))))
    ·have h3:=YV h3
     have hr:=Zdp (ky:=ky) (i:=lo+c.2.1-(c.2.2+1)) (j:=lo+c.2.1) (by omega) heq
     refine Zq (λh5=>Ye (ZhP (Yg ⟨_,rfl,hC1.trans ((Zdq a1 (by omega)).wide (by omega) (by omega)),rfl,by simp only;omega,?_,by simp only;omega,λx x1 x2=>by simp only at x1 x2⊢;congr 1;omega⟩))) (λh5=>Yg ⟨_,rfl,hC1,rfl,by simp only;omega,?_,by simp only;omega,λx x1 x2=>by simp only at x1 x2⊢;congr 1;omega⟩)
     ·exact DeR.congr (a:=a1) (DeR.next (r:=lo+c.2.1) hD1 (by omega) (Int.le_of_lt h3)) (λi _ _=>hr i)
     ·exact DeR.next (r:=lo+c.2.1) hD1 (by omega) (Int.le_of_lt h3)
    ·exact Yg ⟨_,rfl,hC1,rfl,by simp only;omega,by simp only;omega,hD1,hq,heq⟩
    ·have h3:=Int.not_lt.mp λz=>h3 (YC z)
     have h4:=Int.not_lt.mp λz=>h4 (YC z)
     have e5:kp ky a1 (lo+c.2.1)=kp ky a1 (lo+c.2.1-1):=Int.le_antisymm h4 h3
     refine Yg ⟨_,rfl,hC1,rfl,by simp only;omega,DeR.next (r:=lo+c.2.1) hD1 (by omega) h4,by simp only;omega,?_⟩
     intro x x1 x2
     simp only at x1 x2⊢
     have e6:lo+(c.2.1+1)-1=lo+c.2.1:=by omega
     rw[e6,e5]
     by_cases ex:x=lo+c.2.1
     ·rw[ex,e5]
     ·exact heq x (by omega) (by omega)
   ·rintro c st' ⟨a1,rfl,hC1,e1,e2,hD1,hq,heq⟩
    exact⟨a1,rfl,hC1,e1,by omega,by omega,hD1,hq,heq⟩
   ·rintro⟨r,n2,neq⟩ st' ⟨a1,rfl,hC1,e1,m1,m2,hD1,hq,heq⟩
    simp only at e1 m1 m2 hD1 hq heq
    subst e1
    have hs2:=hC1.size
    have fin:∀a2,Chg a a2 lo (lo+nrem)->DeR ky a2 lo (lo+n2)->Chg a (mirror a2 lo (lo+n2) ((lo+n2-lo) / 2)) lo (lo+nrem)/\SoR ky (mirror a2 lo (lo+n2) ((lo+n2-lo) / 2)) lo (lo+n2):=by
     intro a2 hC2 hD2
     have:=hC2.size
     refine⟨hC2.trans ((Zdq a2 (by omega)).wide (by omega) (by omega)),?_⟩
     intro i j hi hij hj
     rw[ZgF (by omega),ZgF (by omega),Yd ⟨hi,by omega⟩,Yd ⟨by omega,hj⟩]
     exact hD2 _ _ (by omega) (by omega) (by omega)
    have hr:=Zdp (ky:=ky) (i:=lo+n2-(neq+1)) (j:=lo+n2) (by omega) heq
    have C3:=hC1.trans ((Zdq a1 (i:=lo+n2-(neq+1)) (j:=lo+n2) (by omega)).wide (l':=lo) (r':=lo+nrem) (by omega) (by omega))
    have F1:=fin _ C3 (DeR.congr (a:=a1) hD1 (λi _ _=>hr i))
    have F2:=fin _ hC1 hD1
    refine Zq (λh5=>Ye (ZhP (Ye (ZhP (Ye (asc _ (hP.perm F1.1.perm) (by have:=F1.1.size;omega) n2 m1 m2 F1.2 _ _ (λx c=>rfl) (λm z1 z2 z3 _=>?_))))))) (λh5=>Ye (ZhP (Ye (asc _ (hP.perm F2.1.perm) (by have:=F2.1.size;omega) n2 m1 m2 F2.2 _ _ (λx c=>rfl) (λm z1 z2 z3 _=>?_)))))
    ·exact Yg (hQ m _ (by omega) z2 F1.1 z3)
    ·exact Yg (hQ m _ (by omega) z2 F2.1 z3)
theorem ZiG (hc:Zev prog w A s κ P ky) {a:Array Keyed}{pd:Array (Nat×Nat×Nat)}{g:Nat}{fl:Option Value} (hP:AllP P a) {lo n ok:Nat}{Q:Bool->SortSt->Prop} (hs:lo+n<=a.size) (hok:ok<=n) (hS:SoR ky a lo (lo+ok))
  (hQ:∀a',Chg a a' lo (lo+n)->SoR ky a' lo (lo+n)->Q true (SortSt.mk' κ a' pd g fl)):wpS (model prog w) A E s (binarySort' lo n ok) Q (SortSt.mk' κ a pd g fl):=by
 rw[binarySort'_eq]
 have h1:SoR ky a lo (lo+max ok 1):=by
  by_cases h:1<=ok
  ·rw[Nat.max_eq_left h];exact hS
  ·intro i j hi hij hj
   have:i=j:=by omega
   rw[this];exact Int.le_refl _
 refine Ye (wpS_mono (Q:=λ(c:Option Bool×Unit) (st':SortSt)=>∃a',st'=SortSt.mk' κ a' pd g fl/\c.1=none/\Chg a a' lo (lo+n)/\SoR ky a' lo (lo+n)) (wpS_forRange (λ(k:Nat) (c:Option Bool×Unit) (st':SortSt)=>∃a',st'=SortSt.mk' κ a' pd g fl/\c.1=none/\Chg a a' lo (lo+n)/\SoR ky a' lo (lo+k)) ?_ ?_ ⟨a,rfl,rfl,Chg.refl _ _ _,h1⟩) ?_)
 ·rintro k c st' k1 k2 ⟨a1,rfl,e1,hC,hSo⟩
  have hP1:=hP.perm hC.perm
  have hs1:=hC.size
  refine Ye (wpS_mono (Q:=λ(c:Option Bool×Nat×Nat) (st':SortSt)=>st'=SortSt.mk' κ a1 pd g fl/\c.1=none/\c.2.1<=k/\(∀i,i<c.2.1->kp ky a1 (lo+i)<=kp ky a1 (lo+k))/\(∀i,c.2.1<=i->i<k->kp ky a1 (lo+k)<kp ky a1 (lo+i))) (wpS_forRange (λ(t:Nat) (c:Option Bool×Nat×Nat) (st':SortSt)=>st'=SortSt.mk' κ a1 pd g fl/\c.1=none/\c.2.1<=c.2.2/\c.2.2<=k/\c.2.2-c.2.1<=k-t/\(∀i,i<c.2.1->kp ky a1 (lo+i)<=kp ky a1 (lo+k))/\(∀i,c.2.2<=i->i<k->kp ky a1 (lo+k)<kp ky a1 (lo+i))) ?_ ?_ ⟨rfl,rfl,Yt _,Yf _,Yf _,λi hi=>absurd hi (Nat.not_lt_zero _),λi x1 x2=>by simp only at x1;omega⟩) ?_)
  ·rintro t c st' t1 t2 ⟨rfl,e1,b1,b2,b3,b4,b5⟩
   refine Zq (λh=>Yg ⟨rfl,rfl,by simp only;omega,b4,λi x1 x2=>b5 i (by simp only at x1;omega) x2⟩) (λh=>Ye (Zgc hc hP1 (by omega) (by omega) (Zq (λh3=>?_) (λh3=>?_))))
   ·have h3:=YV h3
    refine Yg ⟨rfl,rfl,by simp only;omega,by simp only;omega,by simp only;omega,b4,?_⟩
    intro i x1 x2
    simp only at x1
    exact Int.lt_of_lt_of_le h3 (hSo _ _ (by omega) (by omega) (by omega))
   ·have h3:=Int.not_lt.mp λz=>h3 (YC z)
    refine Yg ⟨rfl,rfl,by simp only;omega,by simp only;omega,by simp only;omega,?_,b5⟩
    intro i x1
    simp only at x1
    exact Int.le_trans (hSo _ _ (by omega) (by omega) (by omega)) h3
  ·rintro c st' ⟨rfl,e1,b1,b2,b3,b4,b5⟩
   exact⟨rfl,e1,by omega,b4,λi x1 x2=>b5 i (by omega) x2⟩
  ·rintro⟨r,l,r2⟩ st' ⟨rfl,e2,b1,b4,b5⟩
   simp only at e2 b1 b4 b5
   subst e2
   simp only[moveDown'_eq]
   refine Ye (wpS_modify (Yg ⟨_,rfl,rfl,hC.trans ((ZrB a1 (src:=lo+k) (d:=lo+k-(lo+l)) (by omega) (by omega)).wide (by omega) (by omega)),?_⟩))
   intro i j hi hij hj
   have ed:lo+k-(lo+k-(lo+l))=lo+l:=by omega
   show kp ky (bubble a1 (lo+k) (lo+k-(lo+l))) i<=kp ky (bubble a1 (lo+k) (lo+k-(lo+l))) j
   rw[ZpC (by omega) (by omega),ZpC (by omega) (by omega),ed]
   have big:∀x,lo<=x->x<lo+k->∃y,x=lo+y/\y<k:=λx x1 x2=>⟨x-lo,by omega,by omega⟩
   by_cases c1:i=lo+l
   ·rw[Yd c1]
    by_cases c2:j=lo+l
    ·rw[Yd c2];exact Int.le_refl _
    ·rw[Yb c2,Yd ⟨by omega,by omega⟩]
     obtain⟨y,hy,hyk⟩:=big (j-1) (by omega) (by omega)
     rw[hy];exact Int.le_of_lt (b5 y (by omega) hyk)
   ·rw[Yb c1]
    by_cases c2:j=lo+l
    ·rw[Yd c2,Yb (by omega)]
     obtain⟨y,hy,hyk⟩:=big i (by omega) (by omega)
     rw[hy];exact b4 y (by omega)
    ·rw[Yb c2]
     split<;>split
     ·exact hSo _ _ (by omega) (by omega) (by omega)
     ·omega
     ·exact hSo _ _ (by omega) (by omega) (by omega)
     ·exact hSo _ _ (by omega) (by omega) (by omega)
 ·rintro c st' ⟨a1,rfl,e1,hC,hSo⟩
  exact⟨a1,rfl,e1,hC,λi j hi hij hj=>hSo i j hi hij (by omega)⟩
 ·rintro⟨r,u⟩ st' ⟨a1,rfl,e1,hC,hSo⟩
  simp only at e1
  subst e1
  exact Yg (hQ a1 hC hSo)
end
section
variable {ky:Keyed->Int}
noncomputable def ZZ (ky:Keyed->Int) (a:Array Keyed):List (Nat×Nat×Nat)->Nat->Nat->Prop
 |[],x,y=>x=y
 |r::l,x,y=>r.1=x/\1<=r.2.1/\SoR ky a x (x+r.2.1)/\ZZ ky a l (x+r.2.1) y
variable {a a':Array Keyed}
theorem ZZ.app:∀{l m:List (Nat×Nat×Nat)}{x z:Nat},ZZ ky a (l++m) x z↔∃y,ZZ ky a l x y/\ZZ ky a m y z
 |[],m,x,z=>⟨λh=>⟨x,rfl,h⟩,λ⟨y,e,h⟩=>by cases e;exact h⟩
 |r::l,m,x,z=>by
  constructor
  ·rintro⟨h1,h2,h3,h4⟩
   obtain⟨y,q1,q2⟩:=ZZ.app.mp h4
   exact⟨y,⟨h1,h2,h3,q1⟩,q2⟩
  ·rintro⟨y,⟨h1,h2,h3,h4⟩,q⟩
   exact⟨h1,h2,h3,ZZ.app.mpr ⟨y,h4,q⟩⟩
theorem ZZ.le:∀{l:List (Nat×Nat×Nat)}{x y:Nat},ZZ ky a l x y->x+l.length<=y
 |[],x,y,h=>by cases h;exact Yf _
 |r::l,x,y,⟨_,h2,_,h4⟩=>by have:=h4.le;simp only[YM];omega
theorem ZZ.congr:∀{l:List (Nat×Nat×Nat)}{x y:Nat},ZZ ky a l x y->(∀i,x<=i->i<y->kp ky a' i=kp ky a i)->ZZ ky a' l x y
 |[],x,y,h,_=>h
 |r::l,x,y,⟨h1,h2,h3,h4⟩,e=>by
  have:=h4.le
  exact⟨h1,h2,h3.congr (λi x1 x2=>e i x1 (by omega)),h4.congr (λi x1 x2=>e i (by omega) x2)⟩
theorem ZZ.ZpD:∀{l m:List (Nat×Nat×Nat)}{x y:Nat},ZZ ky a l x y->l.map (λr=>(r.1,r.2.1))=m.map (λr=>(r.1,r.2.1))->ZZ ky a m x y
 |[],[],x,y,h,_=>h
 |r::l,q::m,x,y,⟨h1,h2,h3,h4⟩,e=>by
  simp only[YO,List.cons.injEq,Prod.mk.injEq]at e
  obtain⟨⟨e1,e2⟩,e3⟩:=e
  refine⟨e1▸h1,e2▸h2,e2▸h3,?_⟩
  rw[<-e2];exact h4.ZpD e3
 |[],_::_,_,_,_,e=>by cases e
 |_::_,[],_,_,_,e=>by cases e
theorem ZmV (base:Nat):∀(m:List Keyed) (n:Nat) (a:Array Keyed),base+n+m.length<=a.size ->
  (List.foldl (λ(a:Array Keyed) (x:Keyed×Nat)=>a.setIfInBounds (base+x.2) x.1) a (m.zipIdx n)).toList=a.toList.take (base+n)++m++a.toList.drop (base+n+m.length)
 |[],n,a,h=>by simp
 |x::m,n,a,h=>by
  simp only[YM]at h
  rw[List.zipIdx_cons,List.foldl_cons,ZmV base m (n+1) _ (by simp;omega)]
  simp only[Array.toList_setIfInBounds,YM]
  have e1:(a.toList.set (base+n) x).take (base+(n+1))=a.toList.take (base+n)++[x]:=by
   rw[<-Nat.add_assoc,Y7,List.take_set,List.getElem?_set]
   rw[List.set_eq_of_length_le (by simp;omega)]
   simp[show base+n<a.size by omega]
  have e2:(a.toList.set (base+n) x).drop (base+(n+1)+m.length)=a.toList.drop (base+n+(m.length+1)):=by
   rw[List.drop_set_of_lt (by omega)]
   congr 1;omega
  rw[e1,e2]
  simp
variable {prog:Program}{w:World}{A:Around}{E:Value->Shared->Prop}{s:Shared}{κ:SortKind}{P:Keyed->Prop}
theorem Zg6 {l r:Nat} (h:SoR ky a l r) (hr:r<=a.size):Srt ky (a.extract l r).toList:=by
 unfold Srt
 rw[List.pairwise_iff_getElem]
 intro i j hi hj hij
 simp only[YK,Array.size_extract]at hi hj
 simp only[Array.getElem_toList,Array.getElem_extract]
 rw[<-ZhO (ky:=ky) (a:=a) (by omega),<-ZhO (ky:=ky) (a:=a) (by omega)]
 exact h _ _ (by omega) (by omega) (by omega)
theorem laid {base mid r:Nat}{res:Array Keyed} (h1:base<=mid) (h2:mid<=r) (h3:r<=a.size) (hg:Gd ky (a.extract base mid).toList (a.extract mid r).toList res.toList) :
  ∃a':Array Keyed,List.foldl (λ(a:Array Keyed) (x:Keyed×Nat)=>a.setIfInBounds (base+x.2) x.1) a res.toList.zipIdx=a'/\Chg a a' base r/\SoR ky a' base r/\∀j,base<=j->j<r->∃t,base<=t/\t<r/\kp ky a' j=kp ky a t:=by
 have hlen:res.toList.length=r-base:=by
  have:=hg.1.length_eq
  simp only[YL,YK,Array.size_extract]at this⊢;omega
 have key:=ZmV base res.toList 0 a (by omega)
 have hb:base+0+res.toList.length=r:=by omega
 rw[hb,Nat.add_zero]at key
 refine⟨_,rfl,⟨?_,?_⟩,?_,?_⟩
 ·rw[Array.perm_iff_toList_perm,key]
  have e:a.toList=a.toList.take base++((a.extract base mid).toList++(a.extract mid r).toList)++a.toList.drop r:=by
   simp only[Array.toList_extract,List.extract_eq_drop_take]
   have:(a.toList.drop base).take (mid-base)++(a.toList.drop mid).take (r-mid)=(a.toList.drop base).take (r-base):=by
    have e2:r-base=(mid-base)+(r-mid):=by omega
    rw[e2,List.take_add,List.drop_drop]
    congr 3;omega
   rw[this]
   have e3:a.toList.drop r=(a.toList.drop base).drop (r-base):=by rw[List.drop_drop];congr 1;omega
   rw[e3,YI,Y3,Y3]
  conv=>rhs;rw[e]
  exact List.Perm.append_right _ (List.Perm.append_left _ hg.1)
 ·intro i hi
  rw[<-Array.getElem?_toList,<-Array.getElem?_toList,key]
  have hl0:(a.toList.take base).length=base:=by simp;omega
  rcases hi with hi|hi
  ·rw[YI,Y4 (by omega),List.getElem?_take_of_lt hi]
  ·rw[Y8 (by simp;simp at hlen;omega),List.getElem?_drop]
   congr 1
   simp only[YL,hl0,hlen];omega
 all_goals
  have atm:∀j,(hj0:base<=j)->(hj:j<r)->kp ky (List.foldl (λ(a:Array Keyed) (x:Keyed×Nat)=>a.setIfInBounds (base+x.2) x.1) a res.toList.zipIdx) j=ky (res.toList[j-base]'(by omega)):=by
   intro j j1 j2
   have hl0:(a.toList.take base).length=base:=by simp;omega
   have:(List.foldl (λ(a:Array Keyed) (x:Keyed×Nat)=>a.setIfInBounds (base+x.2) x.1) a res.toList.zipIdx)[j]?=some (res.toList[j-base]'(by omega)):=by
    rw[<-Array.getElem?_toList,key,YI,Y8 (by omega),Y4 (by omega),hl0,Yh (by omega)]
   unfold kp
   rw[Array.getD_eq_getD_getElem?,this];rfl
 ·intro i j hi hij hj
  rw[atm i hi (by omega),atm j (by omega) hj]
  by_cases e:i=j
  ·subst e;exact Int.le_refl _
  ·exact List.pairwise_iff_getElem.mp hg.2 _ _ _ _ (by omega)
 ·intro j j1 j2
  rw[atm j j1 j2]
  have hm:(res.toList[j-base]'(by omega))∈(a.extract base mid).toList++(a.extract mid r).toList:=(List.Perm.mem_iff hg.1).mp (YR _)
  rcases Yy.mp hm with hm|hm
  ·obtain⟨t,ht,e⟩:=List.mem_iff_getElem.mp hm
   simp only[YK,Array.size_extract]at ht
   simp only[Array.getElem_toList,Array.getElem_extract]at e
   exact⟨base+t,by omega,by omega,by rw[ZhO (by omega),e,Array.getElem_toList]⟩
  ·obtain⟨t,ht,e⟩:=List.mem_iff_getElem.mp hm
   simp only[YK,Array.size_extract]at ht
   simp only[Array.getElem_toList,Array.getElem_extract]at e
   exact⟨mid+t,by omega,by omega,by rw[ZhO (by omega),e,Array.getElem_toList]⟩
theorem ZlW (hc:Zev prog w A s κ P ky) {pd:Array (Nat×Nat×Nat)}{g:Nat} (hP:AllP P a) {i sa na p sb nb p':Nat}{Q:Bool->SortSt->Prop} (h1:pd[i]?=some (sa,na,p)) (h2:pd[i+1]?=some (sb,nb,p')) (hsb:sb=sa+na) (hna:1<=na) (hnb:1<=nb) (hs:sb+nb<=a.size) (hSa:SoR ky a sa sb) (hSb:SoR ky a sb (sb+nb))
  (hQ:∀a' g',Chg a a' sa (sb+nb)->SoR ky a' sa (sb+nb)->Q true (SortSt.mk' κ a' ((pd.setIfInBounds i (sa,na+nb,p)).eraseIdxIfInBounds (i+1)) g' none)) :
  wpS (model prog w) A E s (mergeAt' i) Q (SortSt.mk' κ a pd g none):=by
 refine Ye (wpS_get ?_)
 simp only[h1,h2]
 refine Ye (wpS_modify ?_)
 have kat:∀j,(h:j<a.size)->kp ky a j=ky a[j]:=λj h=>ZhO h
 refine Ye (ZK (by omega:sb<a.size) ?_)
 refine Ye (ZbX (f:=λj=>!decide (kp ky a sb<kp ky a (sa+j))) hc rfl (hP.at _ _) hP.at (by omega) (by omega) (λj h=>by rw[kat _ h,kat sb (by omega)];simp) ?_ ?_)
 ·intro x y hxy hy hfy
  simp only[Bool.not_eq_true',decide_eq_false_iff_not,Int.not_lt]at hfy⊢
  exact Int.le_trans (hSa _ _ (by omega) (by omega) (by omega)) hfy
 intro k hk1 hk2 hk3
 simp only[Bool.not_eq_true',decide_eq_false_iff_not,Int.not_lt,Bool.not_eq_false',decide_eq_true_eq]at hk2 hk3
 have pre:∀x,sa<=x->x<sa+k->kp ky a x<=kp ky a sb:=λx x1 x2=>by
  have:=hk2 (x-sa) (by omega)
  rwa [(by omega:sa+(x-sa)=x)]at this
 refine Zq (λh3=>Yg (hQ a g (Chg.refl _ _ _) ?_)) (λh3=>?_)
 ·simp only[beq_iff_eq]at h3
  intro x y hx hxy hy
  by_cases c1:y<sb
  ·exact hSa x y hx hxy c1
  ·by_cases c2:x<sb
   ·exact Int.le_trans (pre x hx (by omega)) (hSb sb y (Yf _) (by omega) hy)
   ·exact hSb x y (by omega) hxy hy
 ·simp only[beq_iff_eq]at h3
  have post1:kp ky a sb<kp ky a (sa+k):=hk3 k (Yf _) (by omega)
  refine Ye (ZK (by omega:sa+k+(na-k)-1<a.size) ?_)
  refine Ye (ZbX (f:=λj=>decide (kp ky a (sb+j)<kp ky a (sb-1))) hc rfl (hP.at _ _) hP.at (by omega) (by omega) (λj h=>by
   have e:sb-1=sa+k+(na-k)-1:=by omega
   rw[kat _ h,e,kat _ (by omega)];simp) ?_ ?_)
  ·intro x y hxy hy hfy
   simp only[decide_eq_true_eq]at hfy⊢
   exact Int.lt_of_le_of_lt (hSb _ _ (by omega) (by omega) (by omega)) hfy
  intro n2 q1 q2 q3
  simp only[decide_eq_true_eq,decide_eq_false_iff_not,Int.not_lt]at q2 q3
  refine Zq (λh4=>Yg (hQ a g (Chg.refl _ _ _) ?_)) (λh4=>?_)
  ·simp only[beq_iff_eq]at h4
   have:=q3 0 (by omega) (by omega)
   have:=hSa (sa+k) (sb-1) (by omega) (by omega) (by omega)
   rw[Nat.add_zero]at *
   omega
  ·simp only[beq_iff_eq]at h4
   have fin:∀res:Array Keyed,Gd ky (a.extract (sa+k) sb).toList (a.extract sb (sb+n2)).toList res.toList->∃a':Array Keyed,List.foldl (λ(a:Array Keyed) (x:Keyed×Nat)=>a.setIfInBounds (sa+k+x.2) x.1) a res.toList.zipIdx=a'/\Chg a a' sa (sb+nb)/\SoR ky a' sa (sb+nb):=by
    intro res hg
    obtain⟨a',e,c,so,mem⟩:=laid (by omega) (by omega) (by omega) hg
    refine⟨a',e,c.wide (by omega) (by omega),?_⟩
    have low:∀x t,sa<=x->x<sa+k->sa+k<=t->t<sb+n2->kp ky a x<=kp ky a t:=by
     intro x t x1 x2 t1 t2
     by_cases c1:t<sb
     ·exact hSa x t x1 (by omega) c1
     ·exact Int.le_trans (pre x x1 x2) (hSb sb t (Yf _) (by omega) (by omega))
    have high:∀x t,sb+n2<=x->x<sb+nb->sa+k<=t->t<sb+n2->kp ky a t<=kp ky a x:=by
     intro x t x1 x2 t1 t2
     have h5:kp ky a (sb-1)<=kp ky a x:=by
      have:=q3 (x-sb) (by omega) (by omega)
      rwa [(by omega:sb+(x-sb)=x)]at this
     by_cases c1:t<sb
     ·exact Int.le_trans (hSa t (sb-1) (by omega) (by omega) (by omega)) h5
     ·exact hSb t x (by omega) (by omega) (by omega)
    intro x y hx hxy hy
    by_cases x1:x<sa+k
    ·rw[c.kp (.inl x1)]
     by_cases y1:y<sa+k
     ·rw[c.kp (.inl y1)];exact hSa x y hx hxy (by omega)
     ·by_cases y2:y<sb+n2
      ·obtain⟨t,t1,t2,e2⟩:=mem y (by omega) y2
       rw[e2];exact low x t hx x1 t1 t2
      ·rw[c.kp (.inr (by omega))]
       exact Int.le_trans (low x (sa+k) hx x1 (Yf _) (by omega)) (high y (sa+k) (by omega) hy (Yf _) (by omega))
    ·by_cases x2:x<sb+n2
     ·by_cases y2:y<sb+n2
      ·exact so x y (by omega) hxy y2
      ·obtain⟨t,t1,t2,e2⟩:=mem x (by omega) x2
       rw[e2,c.kp (.inr (by omega))];exact high y t (by omega) hy t1 t2
     ·rw[c.kp (.inr (by omega)),c.kp (.inr (by omega))]
      exact hSb x y (by omega) hxy hy
   have Sx:=Zg6 (ky:=ky) (a:=a) (l:=sa+k) (r:=sb) (λx y x1 x2 x3=>hSa x y (by omega) x2 x3) (by omega)
   have Sy:=Zg6 (ky:=ky) (a:=a) (l:=sb) (r:=sb+n2) (λx y x1 x2 x3=>hSb x y (by omega) x2 (by omega)) (by omega)
   have px:∀j,(h:j<(a.extract (sa+k) sb).size)->P (a.extract (sa+k) sb)[j]:=λj h=>by rw[Array.getElem_extract];exact hP.at _ _
   have py:∀j,(h:j<(a.extract sb (sb+n2)).size)->P (a.extract sb (sb+n2))[j]:=λj h=>by rw[Array.getElem_extract];exact hP.at _ _
   have zx:0<(a.extract (sa+k) sb).size:=by rw[Array.size_extract];omega
   have zy:0<(a.extract sb (sb+n2)).size:=by rw[Array.size_extract];omega
   have c0:ky (a.extract sb (sb+n2))[0]<=ky (a.extract (sa+k) sb)[0]:=by
    rw[Array.getElem_extract,Array.getElem_extract,<-kat _ (by omega),<-kat _ (by omega)]
    exact Int.le_of_lt post1
   have cl:∀j,(h:j<(a.extract sb (sb+n2)).size)->ky (a.extract sb (sb+n2))[j]<=ky ((a.extract (sa+k) sb)[(a.extract (sa+k) sb).size-1]'(by omega)):=by
    intro j h
    rw[Array.size_extract]at h
    rw[Array.getElem_extract,Array.getElem_extract,<-kat _ (by omega),<-kat _ (by rw[Array.size_extract];omega)]
    have e:sa+k+((a.extract (sa+k) sb).size-1)=sb-1:=by rw[Array.size_extract];omega
    rw[e]
    exact Int.le_of_lt (q2 j (by omega))
   refine Zq (λh5=>Ye (ZlT hc px py Sx Sy zx zy c0 cl ?_)) (λh5=>Ye (ZlV hc px py Sx Sy zx zy c0 cl ?_))
   all_goals
    intro res g' hg
    obtain⟨a',e,c,so⟩:=fin res hg
    refine Ye (wpS_modify (Ye (wpS_get (Yg ?_))))
    have:=hQ a' g' c so
    rw[<-e]at this
    exact this
theorem split2 {l:List (Nat×Nat×Nat)}{i:Nat} (h:i+1<l.length):l=l.take i++l[i]::l[i+1]::l.drop (i+2):=by
 rw[<-List.drop_eq_getElem_cons (by omega),<-List.drop_eq_getElem_cons (by omega),Y3]
theorem ZmW {pd:Array (Nat×Nat×Nat)}{i:Nat} (h:i+1<pd.size) (v:Nat×Nat×Nat):((pd.setIfInBounds i v).eraseIdxIfInBounds (i+1)).toList=pd.toList.take i++v::pd.toList.drop (i+2):=by
 rw[Array.toList_eraseIdxIfInBounds,Array.toList_setIfInBounds,List.eraseIdx_eq_take_drop_succ,List.set_eq_take_append_cons_drop,Yd (by simp;omega)]
 have hl:(pd.toList.take i).length=i:=by simp;omega
 rw[List.take_append,List.drop_append,hl,(by omega:i+1-i=1),(by omega:i+1+1-i=2),List.take_of_length_le (l:=pd.toList.take i) (by omega),List.drop_of_length_le (l:=pd.toList.take i) (by omega)]
 simp
theorem Zgd (hc:Zev prog w A s κ P ky) {pd:Array (Nat×Nat×Nat)}{g i lo:Nat} (hP:AllP P a) {Q:Bool->SortSt->Prop} (hi:i+1<pd.size) (hR:ZZ ky a pd.toList 0 lo) (hlo:lo<=a.size)
  (hQ:∀a' pd' g',Chg a a' 0 lo->ZZ ky a' pd'.toList 0 lo->pd'.size+1=pd.size->Q true (SortSt.mk' κ a' pd' g' none)) :
  wpS (model prog w) A E s (mergeAt' i) Q (SortSt.mk' κ a pd g none):=by
 have hl:i+1<pd.toList.length:=by simpa using hi
 have hR0:=hR
 rw[split2 hl]at hR
 obtain⟨y,r1,r2⟩:=ZZ.app.mp hR
 obtain⟨e1,n1,s1,e2,n2,s2,r3⟩:=r2
 have le3:=r3.le
 have le1:=r1.le
 refine ZlW hc hP (p:=pd.toList[i].2.2) (p':=pd.toList[i+1].2.2) (sa:=y) (na:=pd.toList[i].2.1) (sb:=y+pd.toList[i].2.1) (nb:=pd.toList[i+1].2.1) ?_ ?_ rfl n1 n2 (by omega) s1 s2 ?_
 ·rw[<-Array.getElem?_toList,Yh (by omega),<-e1]
 ·rw[<-Array.getElem?_toList,Yh (by omega),<-e2]
 ·intro a' g' c so
  refine hQ _ _ _ (c.wide (by omega) (by omega)) ?_ ?_
  ·rw[ZmW hi]
   refine ZZ.app.mpr ⟨y,r1.congr (λj _ j2=>c.kp (.inl j2)),rfl,by simp only;omega,?_,?_⟩
   ·simp only;rw[<-Nat.add_assoc];exact so
   ·simp only;rw[<-Nat.add_assoc];exact r3.congr (λj j1 _=>c.kp (.inr j1))
  ·rw[<-YK,ZmW hi]
   simp;omega
end
section
variable {ky:Keyed->Int}{prog:Program}{w:World}{A:Around}{E:Value->Shared->Prop}{s:Shared}{κ:SortKind}{P:Keyed->Prop}
theorem ZZ.push {a:Array Keyed}{pd:Array (Nat×Nat×Nat)}{lo n p:Nat} (h:ZZ ky a pd.toList 0 lo) (hn:1<=n) (hs:SoR ky a lo (lo+n)):ZZ ky a (pd.push (lo,n,p)).toList 0 (lo+n):=by
 rw[Array.toList_push]
 exact ZZ.app.mpr ⟨lo,h,rfl,hn,hs,rfl⟩
theorem ZkU (hc:Zev prog w A s κ P ky) {a:Array Keyed}{g:Nat}{Q:Unit->SortSt->Prop} (hP:AllP P a) (h2:1<=a.size)
  (hQ:∀st',(arrOf st').Perm a->failedOf st'=none->SoR ky (arrOf st') 0 a.size->Q () st') :
  wpS (model prog w) A E s sortRuns' Q (SortSt.mk' κ a #[] g none):=by
 rw[sortRuns'_eq]
 refine Ye (wpS_get ?_)
 refine Ye (wpS_mono (Q:=λ(c:Option Unit×Nat) (st':SortSt)=>∃a' pd' g',st'=SortSt.mk' κ a' pd' g' none/\c.1=none/\a'.Perm a/\ZZ ky a' pd'.toList 0 a.size) (wpS_forRange (λ(t:Nat) (c:Option Unit×Nat) (st':SortSt)=>∃a' pd' g',st'=SortSt.mk' κ a' pd' g' none/\c.1=none/\a'.Perm a/\t<=c.2/\c.2<=a.size/\ZZ ky a' pd'.toList 0 c.2) ?_ ?_ ⟨a,#[],g,rfl,rfl,Array.Perm.refl _,Yf _,Yt _,rfl⟩) ?_)
 ·rintro t c st' _ ht ⟨a1,pd1,g1,rfl,e1,hp1,ht1,hlo,hR⟩
  have hsz:∀{b:Array Keyed},b.Perm a->b.size=a.size:=λh=>by
   have:=(Array.perm_iff_toList_perm.mp h).length_eq;simpa using this
  have hs1:=hsz hp1
  refine Zq (λh=>Yg ⟨a1,pd1,g1,rfl,rfl,hp1,?_⟩) (λh=>?_)
  ·have e:c.2=a.size:=Nat.le_antisymm hlo h
   rw[<-e];exact hR
  have h:c.2<a.size:=Nat.lt_of_not_le h
  refine Ye (ZkT hc (hP.perm hp1) (by show 1<=a.size-c.2;omega) (by show c.2+(a.size-c.2)<=a1.size;omega) ?_)
  intro m a2 m1 m2 c2 so2
  have m2:m<=a.size-c.2:=m2
  have hs2:=c2.size
  have hp2:=c2.perm.trans hp1
  refine Zq (λh3=>Ye (wpS_lift (wpAny_rule ⟨rfl,Ye (ZiG hc (hP.perm hp2) (by show c.2+min (a.size-c.2) (minRun' a.size a.size 0)<=a2.size;omega) (by show m<=min (a.size-c.2) (minRun' a.size a.size 0);have:m<minRun' a.size a.size 0:=h3;omega) so2 ?_)⟩))) (λh3=>?_)
  focus
   intro a3 c3 so3
   refine Zq (λz=>by cases z) (λ_=>?_)
   have hp3:=c3.perm.trans hp2
   have R3:ZZ ky a3 pd1.toList 0 c.2:=hR.congr (λi _ i2=>by rw[c3.kp (.inl i2),c2.kp (.inl i2)])
   have h3:m<minRun' a.size a.size 0:=h3
   have n3:1<=min (a.size-c.2) (minRun' a.size a.size 0):=by omega
   have n4:c.2+min (a.size-c.2) (minRun' a.size a.size 0)<=a.size:=by omega
  rotate_left
  focus
   have hp3:=hp2
   have so3:=so2
   have R3:ZZ ky a2 pd1.toList 0 c.2:=hR.congr (λi _ i2=>by rw[c2.kp (.inl i2)])
   have n3:=m1
   have n4:c.2+m<=a.size:=by omega
  all_goals
   have hs3:=hsz hp3
   refine Ye (wpS_get ?_)
   cases hb:pd1.back? with
   |none =>
    simp only[hb]
    exact Ye (wpS_modify (Yg ⟨_,_,_,rfl,rfl,hp3,by simp only;omega,n4,R3.push n3 so3⟩))
   |some b =>
    obtain⟨s1,n1,p1⟩:=b
    simp only[hb]
    refine Ye (wpS_mono (Q:=λ(c':Option Unit×Unit) (st':SortSt)=>∃a4 pd4 g4,st'=SortSt.mk' κ a4 pd4 g4 none/\c'.1=none/\Chg _ a4 0 c.2/\ZZ ky a4 pd4.toList 0 c.2) (wpS_forRange (λ(t':Nat) (c':Option Unit×Unit) (st':SortSt)=>∃a4 pd4 g4,st'=SortSt.mk' κ a4 pd4 g4 none/\c'.1=none/\Chg _ a4 0 c.2/\ZZ ky a4 pd4.toList 0 c.2) ?_ (λc' st' z=>z) ⟨_,pd1,g1,rfl,rfl,Chg.refl _ _ _,R3⟩) ?_)
    ·rintro t' c' st' _ _ ⟨a4,pd4,g4,rfl,e4,c4,R4⟩
     have hp4:=c4.perm.trans hp3
     have hs4:=hsz hp4
     refine Ye (wpS_get ?_)
     by_cases hz:pd4.size>1
     ·have hg:pd4[pd4.size-2]?=some (pd4[pd4.size-2]'(by omega)):=getElem?_pos _ _ _
      simp only[hz,if_true,hg]
      refine Zq (λ_=>Yg ⟨a4,pd4,g4,rfl,rfl,c4,R4⟩) (λ_=>Ye (Zgd hc (hP.perm hp4) (by show pd4.size-2+1<pd4.size;omega) R4 (by omega) ?_))
      intro a5 pd5 g5 c5 R5 _
      exact Zq (λz=>by cases z) (λ_=>Yg ⟨a5,pd5,g5,rfl,rfl,c4.trans c5,R5⟩)
     ·simp only[hz,if_false]
      exact Yg ⟨a4,pd4,g4,rfl,rfl,c4,R4⟩
    ·rintro⟨r,u⟩ st' ⟨a4,pd4,g4,rfl,e4,c4,R4⟩
     simp only at e4
     subst e4
     refine Ye (wpS_modify (Ye (wpS_modify (Yg ⟨_,_,_,rfl,rfl,c4.perm.trans hp3,by simp only;omega,n4,?_⟩))))
     refine ZZ.push (R4.ZpD ?_) n3 (so3.congr (λi i1 _=>c4.kp (.inr i1)))
     rw[Array.toList_modify]
     apply List.ext_getElem?
     intro i
     simp only[YH,List.getElem?_modify]
     cases pd4.toList[i]? with
     |none=>rfl
     |some v=>simp only[Option.map_some];split<;>rfl
 ·rintro c st' ⟨a1,pd1,g1,rfl,e1,hp1,ht1,hlo,hR⟩
  have e:c.2=a.size:=by
   have:max 0 a.size=a.size:=by omega
   simp only[this]at ht1;omega
  exact⟨a1,pd1,g1,rfl,e1,hp1,e▸hR⟩
 ·rintro⟨r,lo⟩ st' ⟨a1,pd1,g1,rfl,e1,hp1,hR⟩
  have hsz:∀{b:Array Keyed},b.Perm a->b.size=a.size:=λh=>by
   have:=(Array.perm_iff_toList_perm.mp h).length_eq;simpa using this
  simp only at e1
  subst e1
  have hle:=hR.le
  simp only[YK,Nat.zero_add]at hle
  refine Ye (wpS_mono (Q:=λ(c':Option Unit×Unit) (st':SortSt)=>∃a4 pd4 g4,st'=SortSt.mk' κ a4 pd4 g4 none/\c'.1=none/\a4.Perm a/\ZZ ky a4 pd4.toList 0 a.size/\pd4.size<=1) (wpS_forRange (λ(t':Nat) (c':Option Unit×Unit) (st':SortSt)=>∃a4 pd4 g4,st'=SortSt.mk' κ a4 pd4 g4 none/\c'.1=none/\a4.Perm a/\ZZ ky a4 pd4.toList 0 a.size/\pd4.size<=max 1 (a.size-t')) ?_ ?_ ⟨_,pd1,g1,rfl,rfl,hp1,hR,by omega⟩) ?_)
  ·rintro t' c' st' _ _ ⟨a4,pd4,g4,rfl,e4,hp4,R4,z4⟩
   have hs4:=hsz hp4
   refine Ye (wpS_get (Zq (λhz=>Yg ⟨a4,pd4,g4,rfl,rfl,hp4,R4,hz⟩) (λhz=>?_)))
   have hz:¬ pd4.size<=1:=hz
   refine Ye (Zgd hc (hP.perm hp4) ?_ R4 (by omega) ?_)
   ·show(if _ then pd4.size-2-1 else pd4.size-2)+1<pd4.size
    have two:∀(c:Prop) [Decidable c],(if c then pd4.size-2-1 else pd4.size-2)+1<pd4.size:=λc _=>by split<;>omega
    exact two _
   ·intro a5 pd5 g5 c5 R5 z5
    exact Zq (λz=>by cases z) (λ_=>Yg ⟨a5,pd5,g5,rfl,rfl,c5.perm.trans hp4,R5,by omega⟩)
  ·rintro c' st' ⟨a4,pd4,g4,rfl,e4,hp4,R4,z4⟩
   have z4:pd4.size<=max 1 (a.size-max 0 a.size):=z4
   exact⟨a4,pd4,g4,rfl,e4,hp4,R4,by omega⟩
  ·rintro⟨r,u⟩ st' ⟨a4,pd4,g4,rfl,e4,hp4,R4,z4⟩
   simp only at e4
   subst e4
   refine Yg (hQ _ hp4 rfl ?_)
   show SoR ky a4 0 a.size
   have zl:pd4.toList.length<=1:=by simpa using z4
   match hl:pd4.toList,zl with
   |[],_=>rw[hl]at R4;have:0=a.size:=R4;omega
   |[r],_=>rw[hl]at R4;obtain⟨_,_,so,e⟩:=R4;have e:0+r.2.1=a.size:=e;rw[e]at so;exact so
   |_::_::_,z=>simp at z
end
section
variable {prog:Program}{w:World}{E:Value->Shared->Prop}{s:Shared}
theorem ZpE {α β:Type}{f:α->β}:∀{l l':List β},l'.Perm l->∀q0:List α,l=q0.map f->∃q:List α,q.Perm q0/\l'=q.map f:=by
 intro l l' h
 induction h with
 |nil=>intro q0 e;exact⟨q0,.refl _,e⟩
 |cons x h ih =>
  intro q0 e
  cases q0 with
  |nil=>cases e
  |cons a q0 =>
   rw[YO]at e
   obtain⟨e1,e2⟩:=List.cons.inj e
   obtain⟨q,hq,e3⟩:=ih q0 e2
   exact⟨a::q,hq.cons a,by rw[YO,<-e3,e1]⟩
 |swap x y l =>
  intro q0 e
  cases q0 with
  |nil=>cases e
  |cons a q0 =>
   cases q0 with
   |nil=>simp at e
   |cons b q0 =>
    simp only[YO,List.cons.injEq]at e
    exact⟨b::a::q0,List.Perm.swap a b q0,by simp only[YO];rw[e.1,e.2.1,e.2.2]⟩
 |trans h1 h2 ih1 ih2 =>
  intro q0 e
  obtain⟨q,hq,e2⟩:=ih2 q0 e
  obtain⟨q',hq',e3⟩:=ih1 q e2
  exact⟨q',hq'.trans hq,e3⟩
theorem ZpF {A:Around}{κ:SortKind}{key:Nat->Int}{vs:List Value} (h2:2<=vs.length) (ha:Zpq vs.length key (kas_ask prog w A κ vs) s) (hk:∀i j,i<vs.length->j<vs.length->vs.getD i .none=vs.getD j .none->key i=key j) :
  wpAny (model prog w) A (sortRuns'.run (SortSt.mk' κ (vs.toArray.zip vs.toArray) #[] 7 none)) (λr s'=>∃p:Array Nat,Bd vs.length p/\SoT key p vs.length/\arrOf r.2=p.map (kas_item (vs.toArray.zip vs.toArray))/\failedOf r.2=none/\s'=s) E s:=by
 have hsz:(vs.toArray.zip vs.toArray).size=vs.length:=by simp
 have hitem:∀i,i<vs.length->kas_item (vs.toArray.zip vs.toArray) i=(vs.getD i .none,vs.getD i .none):=by
  intro i hi
  unfold kas_item
  rw[Array.getD_eq_getD_getElem?,getElem?_pos _ i (by omega)]
  simp[hi]
 let P:Keyed->Prop:=λx=>∃i,i<vs.length/\x=(vs.getD i .none,vs.getD i .none)
 let ky:Keyed->Int:=λx=>@dite _ (P x) (Classical.propDecidable _) (λh=>key (Classical.choose h)) (λ_=>0)
 have hky:∀i,i<vs.length->ky (vs.getD i .none,vs.getD i .none)=key i:=by
  intro i hi
  have hp:P (vs.getD i .none,vs.getD i .none):=⟨i,hi,rfl⟩
  show @dite _ (P _) (Classical.propDecidable _) _ _=_
  rw[dif_pos hp]
  have:=Classical.choose_spec hp
  exact hk _ _ this.1 hi (Prod.mk.inj this.2).1.symm
 have hc:Zev prog w A s κ P ky:=by
  rintro x y ⟨i,hi,rfl⟩ ⟨j,hj,rfl⟩ C hC
  rw[hky i hi,hky j hj]at hC
  exact ha i j C hi hj hC
 have hP:AllP P (vs.toArray.zip vs.toArray):=by
  intro x hx
  obtain⟨i,hi,e⟩:=Array.mem_iff_getElem.mp hx
  rw[hsz]at hi
  refine⟨i,hi,?_⟩
  rw[<-e];simp[hi]
 refine Yu (ZkU (E:=E) hc hP (by omega) (Q:=λ_ st'=>(arrOf st').Perm (vs.toArray.zip vs.toArray)/\failedOf st'=none/\SoR ky (arrOf st') 0 vs.length) (λst' h1 h2 h3=>⟨h1,h2,hsz▸h3⟩)) ?_ (λ_ _ z=>z)
 rintro⟨u,st'⟩ s' ⟨rfl,hp,hf,hS⟩
 have e0:(vs.toArray.zip vs.toArray).toList=(List.range vs.length).map (kas_item (vs.toArray.zip vs.toArray)):=by
  refine List.ext_getElem (by simp) λi i1 i2=>?_
  have hi:i<vs.length:=by simpa using i2
  rw[List.getElem_map,List.getElem_range,hitem i hi]
  simp[hi]
 obtain⟨q,hq,e⟩:=ZpE (Array.perm_iff_toList_perm.mp hp) _ e0
 have hB:Bd vs.length q.toArray:=Array.perm_iff_toList_perm.mpr (by simpa using hq)
 have harr:arrOf st'=q.toArray.map (kas_item (vs.toArray.zip vs.toArray)):=by
  apply Array.toList_inj.mp
  rw[e];simp
 refine⟨q.toArray,hB,?_,harr,hf,rfl⟩
 intro i j hij hj
 have hql:q.toArray.size=vs.length:=hB.size
 have hat:∀t,t<vs.length->kp ky (arrOf st') t=kk key q.toArray t:=by
  intro t ht
  have hb:q.toArray.getD t 0<vs.length:=hB.lt (by omega) t
  unfold kk
  rw[<-hky _ hb,<-hitem _ hb]
  unfold kp
  rw[harr]
  have ht2:t<(q.toArray.map (kas_item (vs.toArray.zip vs.toArray))).size:=by rw[Array.size_map];omega
  rw[Array.getD_eq_getD_getElem?,getElem?_pos _ t ht2,Array.getElem_map,Array.getD_eq_getD_getElem?,getElem?_pos q.toArray t (by omega)]
  rfl
 rw[<-hat i (by omega),<-hat j hj]
 exact hS i j (Yt _) hij hj
theorem ZlX {A:Around}{κ:SortKind}{key:Nat->Int}{a:Addr}{vs:List Value}{n:Nat}{P:PySem.Fin->Shared->Prop} (ho:s.heap.get? a=some (seqObj "list" vs.toArray n)) (h64:vs.length<=100000) (hcs:∀i j,i<vs.length->j<vs.length->vs.getD i .none=vs.getD j .none->key i=key j)
  (hk:∀s':Shared,(∀b o,b≠a->s.heap.get? b=some o->s'.heap.get? b=some o)->2<=vs.length->(∀Q:SortKind->Shared->Prop,Q κ s'->wpAny (model prog w) A (keyKind' vs.toArray) Q E s')/\Zpq vs.length key (kas_ask prog w A κ vs) s')
  (fin:∀p:Array Nat,Bd vs.length p->SoT key p vs.length->P (.done (.ret .none)) {s with heap:=sortedHeap s.heap a vs (Zg5 vs p)}):wpAny (model prog w) A (Builtin.«list.sort» ⟨[.ref a],[]⟩) P E s:=by
 have lt:=Yj ho
 obtain⟨c1,oc1⟩:∃c1,(s.heap.update a (Obj.mapSeq λ_=>#[])).get? a=some (seqObj "list" #[] c1):=⟨_,get?_update_seq ho λ_=>#[]⟩
 have oc6:(((s.heap.update a (Obj.mapSeq λ_=>#[])).push (seqObj "tuple" vs.toArray 0)).push (seqObj "list" #[] 0)).get? a=some (seqObj "list" #[] c1):=Yi _ (Yi _ oc1)
 have kp:∀b o,b≠a->s.heap.get? b=some o->(((s.heap.update a (Obj.mapSeq λ_=>#[])).push (seqObj "tuple" vs.toArray 0)).push (seqObj "list" #[] 0)).get? b=some o:=λb o nb e =>
  Yi _ (Yi _ (by rw[Heap.get?_update_ne _ _ _ _ nb];exact e))
 have z1:vs.toArray.size=vs.length:=Yr ..
 have za:∀p:Array Nat,Bd vs.length p->(Zg5 vs p).size<=sizeLine:=λp hp=>by
  have:=hp.size
  unfold Zg5
  rw[Yr,Yl,YK,this,sizeLine_eq];omega
 rw[list_sort_plain]
 have hob:=ho
 refine Ya (listItems_at hob rfl (Ya ?_))
 refine listUpdate_at hob rfl (Ya (seqEpoch_at oc1 rfl (Ya ?_))) (by rw[z1,sizeLine_eq];omega) (Yt _)
 refine wpAny_newTuple (Ya ?_) (Yn h64 (by decide))
 refine wpAny_newList (wpAny_holding ?_) (Yt _)
 show wpAny (model prog w) A _ P E {s with heap:=(((s.heap.update a (Obj.mapSeq λ_=>#[])).push (seqObj "tuple" vs.toArray 0)).push (seqObj "list" #[] 0))}
 dsimp only
 by_cases h2:vs.toArray.size<2
 ·rw[Yd h2,Yd h2]
  refine Ya (Yc ?_)
  rw[StateT.run_pure]
  refine Ya (Yc ?_)
  have hB:Bd vs.length (List.range vs.length).toArray:=Array.Perm.refl _
  have e:=kas_range (vs.toArray.zip vs.toArray)
  rw[show(vs.toArray.zip vs.toArray).size=vs.length by simp]at e
  have eo:(arrOf (SortSt.mk' general' (vs.toArray.zip vs.toArray) #[] 7 none)).map (·.2)=Zg5 vs (List.range vs.length).toArray:=kat_snds (ks:=vs) (vs:=vs) rfl e.symm
  dsimp only
  rw[eo]
  refine Ya (seqEpoch_at oc6 rfl (Ya (listUpdate_at oc6 rfl ?_ (Yt _) (Nat.le_succ_of_le (za _ hB)))))
  simp only[bne_self_eq_false,Bool.false_eq_true,if_false]
  exact Yc (fin _ hB λi j h1 hj=>by rw[show i=j by omega];exact Int.le_refl _)
 ·rw[Yb h2,Yb h2]
  have h2':2<=vs.length:=by omega
  obtain⟨hk1,hk2⟩:=hk {s with heap:=(((s.heap.update a (Obj.mapSeq λ_=>#[])).push (seqObj "tuple" vs.toArray 0)).push (seqObj "list" #[] 0))} kp h2'
  refine Ya (hk1 _ (Ya (Yu (ZpF h2' hk2 hcs) ?_ λ_ _ z=>z)))
  rintro⟨⟨⟩,st⟩ s' ⟨p,b1,b2,har,hf,rfl⟩
  have eo:(arrOf st).map (·.2)=Zg5 vs p:=kat_snds (ks:=vs) (vs:=vs) rfl har
  dsimp only
  rw[eo]
  refine Ya (seqEpoch_at oc6 rfl (Ya (listUpdate_at oc6 rfl ?_ (Yt _) (Nat.le_succ_of_le (za _ b1)))))
  rw[hf]
  simp only[bne_self_eq_false,Bool.false_eq_true,if_false]
  exact Yc (fin p b1 b2)
theorem ZrC {A:Around}{κ:SortKind}{key:Nat->Int}{l:Addr}{vs:List Value}{Q:Value->Shared->Prop} (hl:s.heap.IsList l vs.toArray) (h64:vs.length<=100000) (hcs:∀i j,i<vs.length->j<vs.length->vs.getD i .none=vs.getD j .none->key i=key j)
  (hk:∀(A':Around) (E':Value->Shared->Prop) (s':Shared),(∀b o,s.heap.get? b=some o->s'.heap.get? b=some o)->2<=vs.length->(∀Q:SortKind->Shared->Prop,Q κ s'->wpAny (model prog w) A' (keyKind' vs.toArray) Q E' s')/\Zpq vs.length key (kas_ask prog w A' κ vs) s')
  (fin:∀p:Array Nat,Bd vs.length p->SoT key p vs.length->Q (.ref (s.heap.objs.size+1)) {s with heap:=sortedAll s.heap vs (Zg5 vs p)}):wpAny (model prog w) A (call (.builtin "sorted") [.ref l]) Q E s:=by
 refine Calls.call_function_entry kind_sorted plain_sorted entry_sorted (args_sorted1 _) ?_
 unfold Builtin.«sorted»
 refine Ya (m:=checkCount "sorted" 1 1 _) (Yc (Ya (collect_list hl (Ya (wpAny_newList ?_ (by rw[sizeLine_eq];omega))) (by rw[sizeLine_eq];omega))))
 have z5:((s.heap.push (seqObj "list" #[] 0)).update s.heap.objs.size (Obj.mapSeq (·++vs.toArray))).objs.size=s.heap.objs.size+1:=(Heap.size_update ..).trans (size_push' ..)
 have o5:(((s.heap.push (seqObj "list" #[] 0)).update s.heap.objs.size (Obj.mapSeq (·++vs.toArray))).push (seqObj "list" vs.toArray 0)).get? (s.heap.objs.size+1)=some (seqObj "list" vs.toArray 0):=z5▸Yv _ rfl
 have kp:∀b o,s.heap.get? b=some o->(((s.heap.push (seqObj "list" #[] 0)).update s.heap.objs.size (Obj.mapSeq (·++vs.toArray))).push (seqObj "list" vs.toArray 0)).get? b=some o:=λb o e=>by
  have hlt:=Yj e
  refine Yi _ ?_
  rw[Heap.get?_update_ne _ _ _ _ (Yo hlt)]
  exact Yi _ e
 show wpAny _ _ _ _ _ {s with heap:=(((s.heap.push (seqObj "list" #[] 0)).update s.heap.objs.size (Obj.mapSeq (·++vs.toArray))).push (seqObj "list" vs.toArray 0))}
 rw[z5]
 refine Ya (wpAny_holding (wpAny_call_entry slot_list_sort ⟨_,o5,rfl⟩ entry_list_sort (ZlX (κ:=κ) (key:=key) o5 h64 hcs (λs' k6 h2=>hk _ _ s' (λb o e=>k6 b o (Yo (YN (Yj e))) (kp b o e)) h2) λp b1 b2=>⟨_,rfl,?_⟩) (args_list_sort _)))
 exact Yc ⟨_,rfl,fin p b1 b2⟩
end
section
variable {X:Cx}
noncomputable def ZjV (K:Frag):List V->Hp->VK->Prop:=λxs H Q=>∃(p:Addr) (rs:List (List Int)),xs=[.ref p]/\ZjS H p rs/\(∀r∈rs,∃x y,r=[x,y]/\0<=y/\y<100000)/\rs.length<=100000/\∀(rs':List (List Int)) (l:Addr) (H':Hp),rs'.Perm rs->rs'.Pairwise (λr r'=>Zeu r<=Zeu r')->H l=none->Zg H H'->ZjS H' l rs'->Q (.ref l) H'
theorem ZiH {K:Frag} (hK:X.K=K):Zb4 X (.builtin "sorted") (ZjV K):=by
 subst hK
 intro pins s σ H xs us Q I r h
 obtain⟨p,rs,rfl,⟨as,hp,hla,hT⟩,hR,hn,q⟩:=h
 obtain⟨u,rfl,ru⟩:=r.one
 cases(show u=Value.ref p from ru)
 obtain⟨its,rv,pl,hz⟩:=I.list (SqL.of hp)
 have hl:its.length=rs.length:=by have:=rv.length;rw[Yl]at this;omega
 have hits:∀i (h1:i<its.length) (h2:i<as.length),its[i]=Value.ref as[i]:=λi h1 h2=>by
  obtain⟨v,e1,e2⟩:=rv.get (i:=i) (x:=V.ref as[i]) (by rw[YH,Yh h2];rfl)
  rw[Yh h1]at e1
  cases e1
  exact e2
 have hPr:∀i (h1:i<its.length) (h2:i<rs.length),∃x y,rs[i]=[x,y]/\0<=y/\y<100000/\Pr s.heap its[i] x y:=λi h1 h2=>by
  obtain⟨x,y,e,y0,y1⟩:=hR _ (YR h2)
  obtain⟨_,tv,hv,o,g,c,n,d⟩:=I.hok _ _ (hT i (by omega) h2)
  rw[e]at hv
  obtain⟨v1,v2,rfl,⟨t1,rfl⟩,⟨t2,rfl⟩⟩:=hv.two
  exact⟨x,y,e,y0,y1,as[i]'(by omega),o,n,t1,t2,hits i h1 (by omega),g,c,d⟩
 have hPm:∀v∈its,∃x y,Pr s.heap v x y:=λv hv=>by
  obtain⟨i,h1,rfl⟩:=Jb hv
  obtain⟨x,y,_,_,_,hp⟩:=hPr i h1 (by omega)
  exact⟨x,y,hp⟩
 refine ZrC (κ:=tuples' true) (key:=λi=>Zeu (rs.getD i [])) pl.isList (by omega) ?_ (λA' E' s' kp h2=>⟨λQ' hq=>ZlN h2 (λv hv=>?_) hq,λi j C hi hj hC=>?_⟩) λp' hB hS=>?_
 ·intro i j hi hj e
  obtain⟨x,y,e1,_,_,a1,o1,n1,t1,u1,q1,q2,_,q3⟩:=hPr i hi (by omega)
  obtain⟨x',y',e1',_,_,a1',o1',n1',t1',u1',q1',q2',_,q3'⟩:=hPr j hj (by omega)
  have e2:its[i]=its[j]:=by simpa[hi,hj]using e
  rw[q1,q1']at e2
  cases e2
  rw[q2]at q2'
  cases q2'
  rw[q3]at q3'
  have ei:rs.getD i []=[x,y]:=by simp[Yp,show i<rs.length by omega,e1]
  have ej:rs.getD j []=[x',y']:=by simp[Yp,show j<rs.length by omega,e1']
  cases q3'
  simp only[ei,ej]
 ·obtain⟨x,y,hp⟩:=hPm v hv
  exact⟨x,y,hp.keep kp⟩
 ·obtain⟨x,y,e,y0,y1,hp1⟩:=hPr i hi (by omega)
  obtain⟨x',y',e',y0',y1',hp2⟩:=hPr j hj (by omega)
  unfold kas_ask
  rw[show its.getD i Value.none=its[i] by simp[hi],show its.getD j Value.none=its[j] by simp[hj]]
  refine Zpr (hp1.keep kp) (hp2.keep kp) ?_
  have ei:Zeu (rs.getD i [])=x*100000+y:=by simp[Zeu,Yp,show i<rs.length by omega,e]
  have ej:Zeu (rs.getD j [])=x'*100000+y':=by simp[Zeu,Yp,show j<rs.length by omega,e']
  have:decide (Zeu (rs.getD i [])<Zeu (rs.getD j []))=decide (x<x'\/(x=x'/\y<y')):=by rw[ei,ej];exact decide_eq_decide.mpr (by omega)
  rw[<-this];exact hC
 ·have hsz:p'.size=rs.length:=hB.size.trans hl
  have hlt:∀i∈p'.toList,i<rs.length:=λi hi=>by
   have:=(Array.perm_iff_toList_perm.mp hB).mem_iff.mp hi
   simpa[hl]using this
  have sm:Zg H (upd H (s.heap.objs.size+1) (.lst ((p'.toList.map λi=>as.getD i 0).map V.ref))):=(Zg.refl H).upd (I.hok.fresh (YS _))
  refine⟨.ref (s.heap.objs.size+1),_,I.laid (t':=s.toks) (a:=s.heap.objs.size+1) (o:=.lst ((p'.toList.map λi=>as.getD i 0).map V.ref)) (λb o e=>sortedAll_old e) (YS _) ?_,rfl,q (p'.toList.map λi=>rs.getD i []) _ _ ?_ ?_ (I.hok.fresh (YS _)) sm ⟨_,Zc,by simp,λi i1 i2=>sm _ _ ?_⟩⟩
  ·obtain⟨n,e⟩:=sortedAll_at s.heap its (Zg5 its p')
   refine⟨Yn (show _<=100000 by simp;omega) (by decide),(Zg5 its p').toList,n,?_,by rw[e]⟩
   have key:∀(l:List Nat),(∀i∈l,i<rs.length)->Vals ((l.map λi=>as.getD i 0).map V.ref) (l.map λi=>its.getD i Value.none):=by
    intro l
    induction l with
    |nil=>intro _;exact .nil
    |cons a l ih =>
     intro hl'
     refine .cons ?_ (ih λi hi=>hl' i (Yz _ hi))
     have ha:=hl' a Yx
     have h1:a<its.length:=by omega
     have h2:a<as.length:=by omega
     show its.getD a Value.none=Value.ref (as.getD a 0)
     rw[show its.getD a Value.none=its[a] by simp[h1],show as.getD a 0=as[a] by simp[h2]]
     exact hits a h1 h2
   exact key _ hlt
  ·have:=(Array.perm_iff_toList_perm.mp hB).map λi=>rs.getD i []
   refine this.trans ?_
   have e:((List.range its.length).toArray.toList.map λi=>rs.getD i [])=rs:=by
    rw[hl]
    refine List.ext_getElem (by simp) λi i1 i2=>?_
    have:i<rs.length:=i2
    simp[Yp,this]
   rw[e]
  ·rw[List.pairwise_iff_getElem]
   intro i j i1 j1 hij
   have i2:i<p'.size:=by simpa using i1
   have j2:j<p'.size:=by simpa using j1
   have:=hS i j (by omega) (by omega)
   unfold kk at this
   rw[Array.getD_eq_getD_getElem?,Array.getD_eq_getD_getElem?,getElem?_pos p' i i2,getElem?_pos p' j j2]at this
   simpa using this
  ·have i3:i<p'.toList.length:=by simpa using i1
   have hi:=hlt _ (YR i3)
   have h2:p'.toList[i]<as.length:=by omega
   have:=hT _ h2 hi
   have e1:(p'.toList.map λi=>as.getD i 0)[i]'(by simpa using i1)=as[p'.toList[i]]:=by rw[List.getElem_map,Yp,Yh h2];rfl
   have e2:(p'.toList.map λi=>rs.getD i [])[i]'(by simpa using i2)=rs[p'.toList[i]]:=by rw[List.getElem_map,Yp,Yh hi];rfl
   rw[e1,e2];exact this
end
end L2
namespace L2
open PySem PySem.Spec PyProof.Rows
section
variable {prog:Program}{w:World}{A:Around}{R:Result->Shared->Prop}{s:Shared}{elt tg iter tg1 iter1:Expr}{ifs ifs1:List Expr}{scope:Scope}{pos:Pos}{it acc:Value}{env:Env}
theorem ZjW (hs1:∀env x,foldedSetIterable iter1 env x=pure x) (I:Nat->Shared->Prop)
  (turn:∀n s,I n s->wpAny (model prog w) A (pyNext it) (λr s₁=>match r with
   |none=>R (.ok .next) s₁
   |some v=>wpAny (model prog w) A (letOwnedTupleGo tg it v) (λ_ s₁=>wpAny (model prog w) A (assign tg env v) (λ_ s₂ =>
     wpAny (model prog w) A (forIn ifs true λc r=>if r=true then do let ok <-isTrue c env (eval c env);pure (ForInStep.yield ok)else pure (ForInStep.yield r)) (λok s₃ =>
      if ok=true then wpAny (model prog w) A (eval iter1 env) (λx s₄=>wpAny (model prog w) A (pyIter x) (λit2 s₅ =>
       wpAny (model prog w) A (runOwn (.compStart (.ListComp elt [⟨tg,iter,ifs,0⟩,⟨tg1,iter1,ifs1,0⟩] scope pos) 1 it2 acc env) env) (λ_ s₆=>∃m,m<n/\I m s₆) (λ_ _=>False) s₅) (λ_ _=>False) s₄) (λ_ _=>False) s₃
      else ∃m,m<n/\I m s₃) (λ_ _=>False) s₂) (λ_ _=>False) s₁) (λ_ _=>False) s₁) (λ_ _=>False) s)
  (n:Nat) (h:I n s) :
  codeAny (model prog w) A (.compLoop (.ListComp elt [⟨tg,iter,ifs,0⟩,⟨tg1,iter1,ifs1,0⟩] scope pos) 0 it acc env) R s:=by
 refine codeAny_loop rfl I (λn s hI=>?_) n h
 show wpAny _ A ((compTurn (.ListComp elt [⟨tg,iter,ifs,0⟩,⟨tg1,iter1,ifs1,0⟩] scope pos) 0 it acc env).onRaise (λx=>do noteFrame x env;theTreesLotGoes x)) _ _ s
 refine wpAny_noted ?_
 refine Ya (m:=standAt iter.pos) (wpAny_standAt (Ya (m:=pyNext it) (Yu (turn n s hI) (λr s₁ h₁=>?_) λ_ _ h'=>h'.elim)))
 cases r with
 |none=>exact Yc h₁
 |some v =>
  refine Ya (m:=letOwnedTupleGo tg it v) (Yu h₁ (λ_ s₁' h₁=>?_) λ_ _ h'=>h'.elim)
  refine Ya (m:=assign tg env v) (Yu h₁ (λ_ s₂ h₂=>Ya (Yu h₂ (λok s₃ h₃=>?_) λ_ _ h'=>h'.elim)) λ_ _ h'=>h'.elim)
  cases ok with
  |false=>exact Yc ⟨rfl,h₃⟩
  |true =>
   refine Ya (m:=eval iter1 env) (Yu h₃ (λx s₄ h₄=>?_) λ_ _ h'=>h'.elim)
   refine Ya (m:=standAt iter1.pos) (wpAny_standAt ?_)
   refine Ya (m:=foldedSetIterable iter1 env x) ?_
   rw[hs1]
   refine Yc ?_
   refine Ya (m:=holding [x] (pyIter x)) (wpAny_holding (Yu h₄ (λit2 s₅ h₅=>?_) λ_ _ h'=>h'.elim))
   exact Ya (m:=runOwn _ env) (Yu h₅ (λ_ s₆ h₆=>Yc ⟨rfl,h₆⟩) λ_ _ h'=>h'.elim)
theorem ZjX (I:Nat->Shared->Prop)
  (turn:∀n s,I n s->wpAny (model prog w) A (pyNext it) (λr s₁=>match r with
   |none=>R (.ok .next) s₁
   |some v=>wpAny (model prog w) A (letOwnedTupleGo tg1 it v) (λ_ s₁=>wpAny (model prog w) A (assign tg1 env v) (λ_ s₂ =>
     wpAny (model prog w) A (forIn ifs1 true λc r=>if r=true then do let ok <-isTrue c env (eval c env);pure (ForInStep.yield ok)else pure (ForInStep.yield r)) (λok s₃ =>
      if ok=true then wpAny (model prog w) A (eval elt env) (λx s₄ =>
       wpAny (model prog w) A (call (.builtin "list.append") [acc,x]) (λ_ s₅=>∃m,m<n/\I m s₅) (λ_ _=>False) s₄) (λ_ _=>False) s₃
      else ∃m,m<n/\I m s₃) (λ_ _=>False) s₂) (λ_ _=>False) s₁) (λ_ _=>False) s₁) (λ_ _=>False) s)
  (n:Nat) (h:I n s) :
  codeAny (model prog w) A (.compLoop (.ListComp elt [⟨tg,iter,ifs,0⟩,⟨tg1,iter1,ifs1,0⟩] scope pos) 1 it acc env) R s:=by
 refine codeAny_loop rfl I (λn s hI=>?_) n h
 show wpAny _ A ((compTurn (.ListComp elt [⟨tg,iter,ifs,0⟩,⟨tg1,iter1,ifs1,0⟩] scope pos) 1 it acc env).onRaise (λx=>do noteFrame x env;theTreesLotGoes x)) _ _ s
 refine wpAny_noted ?_
 refine Ya (m:=standAt iter1.pos) (wpAny_standAt (Ya (m:=pyNext it) (Yu (turn n s hI) (λr s₁ h₁=>?_) λ_ _ h'=>h'.elim)))
 cases r with
 |none=>exact Yc h₁
 |some v =>
  refine Ya (m:=letOwnedTupleGo tg1 it v) (Yu h₁ (λ_ s₁' h₁=>?_) λ_ _ h'=>h'.elim)
  refine Ya (m:=assign tg1 env v) (Yu h₁ (λ_ s₂ h₂=>Ya (Yu h₂ (λok s₃ h₃=>?_) λ_ _ h'=>h'.elim)) λ_ _ h'=>h'.elim)
  cases ok with
  |false=>exact Yc ⟨rfl,h₃⟩
  |true =>
   exact Ya (m:=(do let x <-eval elt env;let _ <-call (.builtin "list.append") [acc,x];pure ())) (Ya (Yu h₃ (λx s₄ h₄=>Ya (Yu h₄ (λ_ s₅ h₅=>Yc (Yc ⟨rfl,h₅⟩)) λ_ _ h'=>h'.elim)) λ_ _ h'=>h'.elim))
theorem ZhQ
  (h0:codeAny (model prog w) A (.compLoop (.ListComp elt [⟨tg,iter,ifs,0⟩,⟨tg1,iter1,ifs1,0⟩] scope pos) 1 it acc env) R s)
  (h:wpAny (model prog w) A (pyIter it) (λit' s'=>codeAny (model prog w) A (.compLoop (.ListComp elt [⟨tg,iter,ifs,0⟩,⟨tg1,iter1,ifs1,0⟩] scope pos) 1 it' acc env) R s') (λ_ _=>False) s) :
  codeAny (model prog w) A (.compStart (.ListComp elt [⟨tg,iter,ifs,0⟩,⟨tg1,iter1,ifs1,0⟩] scope pos) 1 it acc env) R s:=by
 refine codeAny_of_tree ?_
 show wpAny _ _ ((compStart (.ListComp elt [⟨tg,iter,ifs,0⟩,⟨tg1,iter1,ifs1,0⟩] scope pos) 1 it acc env).onRaise (λx=>do noteFrame x env;standAt theWindowsPlace)) _ _ s
 refine wpAny_onRaise (Yu (E:=λ_ _=>False) ?_ (λ_ _ q=>q) λ_ _ z=>z.elim)
 unfold compStart
 show wpAny _ _ (ask >>= _) _ _ s
 refine Ya (wpAny_askSetting (wpAny_ite ?_))
 split
 ·first
   |exact Ya (Yc (Yc (And.intro rfl h0)))
   |exact Yc (And.intro rfl h0)
 ·first
   |exact Ya (wpAny_rule (Ya (wpAny_standAt (Ya (Yu h (λit' s' h'=>Yc (And.intro rfl h')) λ_ _ x=>x)))))
   |(refine Ya (wpAny_rule ?_);show wpAny _ _ (standAt iter1.pos >>= _) _ _ s;exact Ya (wpAny_standAt (Ya (Yu h (λit' s' h'=>Yc (And.intro rfl h')) λ_ _ x=>x))))
end
noncomputable def ZjY (J2:It) (g1:TG) (tt1:TT) (te:TE) (σ2:St) (acc:List V) (F:List V->Hp->Prop) (H4:Hp):Prop:=∃W2:Nat->Nat->List V->Hp->Prop,(∃m2,W2 0 m2 acc H4)/\∀j m2 acc2 H5,W2 j m2 acc2 H5 ->
 (J2.stop j H5/\F acc2 H5) \/
 (J2.go j H5/\acc2.length<sizeLine/\∀x2 H6,J2.yld j H5 x2 H6->g1 x2 σ2 H6 fun σ3 H7=>tt1 σ3 H7 λb2 H8=>if b2=true then te σ3 H8 λv H9=>∃m',m'<m2/\W2 (j+1) m' (acc2++[v]) H9 else ∃m',m'<m2/\W2 (j+1) m' acc2 H8)
noncomputable def ZlY (J:It) (g:TG) (tt:TT) (wi1:TI) (g1:TG) (tt1:TT) (te:TE) (σ0:St) (Q:VK) (H1:Hp):Prop:=∃W:Nat->Nat->List V->Hp->Prop,(∃m,W 0 m [] H1)/\∀i m acc H,W i m acc H ->
 (J.stop i H/\acc.length<=sizeLine/\∀p,H p=none->Q (.ref p) (upd H p (.lst acc))) \/
 (J.go i H/\acc.length<=sizeLine/\∀x H',J.yld i H x H'->g x σ0 H' fun σ2 H2=>tt σ2 H2 λb H3=>if b=true then wi1 σ2 H3 λJ2 H4=>ZjY J2 g1 tt1 te σ2 acc (λacc2 H5=>∃m',m'<m/\W (i+1) m' acc2 H5) H4 else ∃m',m'<m/\W (i+1) m' acc H3)
noncomputable def ZlZ (wi:TI) (g:TG) (tt:TT) (wi1:TI) (g1:TG) (tt1:TT) (te:TE) (js:List (Option Nat)):TE:=fun σ H Q=>wi σ H λJ H1=>ZlY J g tt wi1 g1 tt1 te (ZW js σ) Q H1
theorem Zjl {wi wi1:TI}{g g1:TG}{tt tt1:TT}{te:TE}{js:List (Option Nat)}{σ:St}{H:Hp}{Q:VK}:ZlZ wi g tt wi1 g1 tt1 te js σ H Q=wi σ H λJ H1=>ZlY J g tt wi1 g1 tt1 te (ZW js σ) Q H1:=rfl
section
variable {X:Cx}
theorem ZnC {pins:List (Addr×Obj)}{σ:St}{H:Hp}{s:Shared}{tg elt iter tg1 iter1:Expr}{ifs ifs1:List Expr}{scope:Scope}{pos:Pos}{wi wi1:TI}{g g1:TG}{tt tt1:TT}{te:TE}{Nc:List Str}{js:List (Option Nat)}{use:Option (Value->Sem Unit)}{Q:VK}{QQ:Value->Shared->Prop}
  (hc:X.calm=true) (hok:compOk X.env.scope scope=true) (htk:takesC X.N Nc scope js 0=true) (hi:PI X tg iter wi)
  (hg:∀cl C s2 H2 fp,PG (Zap X Nc scope cl C s2 H2 fp) tg g) (ht:∀cl C s2 H2 fp,Zhj (Zap X Nc scope cl C s2 H2 fp) ifs tt) (hi1:∀cl C s2 H2 fp,PI (Zap X Nc scope cl C s2 H2 fp) tg1 iter1 wi1) (hg1:∀cl C s2 H2 fp,PG (Zap X Nc scope cl C s2 H2 fp) tg1 g1) (ht1:∀cl C s2 H2 fp,Zhj (Zap X Nc scope cl C s2 H2 fp) ifs1 tt1) (he:∀cl C s2 H2 fp,PE (Zap X Nc scope cl C s2 H2 fp) elt te)
  (hs:∀x,foldedSetIterable iter X.env x=pure x) (hs1:∀env x,foldedSetIterable iter1 env x=pure x) {L L1:List Nat} (ho:Zff g L) (ho1:Zff g1 L1) (hL:(L.all λk=>js[k]?==some none)=true) (hL1:(L1.all λk=>js[k]?==some none&&!L.contains k)=true) (I:Inv X pins σ H s) (h:ZlZ wi g tt wi1 g1 tt1 te js σ H Q)
  (fin:∀(D C:Addr) (H' H2:Hp) (s2 s':Shared) (xs:List V) (m:Str->Option Value),Inv X pins σ H2 s2->H' C=none->C=D+1->D=s2.heap.objs.size->s'.heap.Ns C m->(∀h',Heap.SameBut C s'.heap h'->Inv X pins σ (upd H' D (.lst xs)) {s' with heap:=h'})->Q (.ref D) (upd H' D (.lst xs)) ->
   compPost (model X.prog X.w) X.A X.xe use QQ (.ref D) C (.ok .next) s') :
  wpAny (model X.prog X.w) X.A (comprehension (.ListComp elt [⟨tg,iter,ifs,0⟩,⟨tg1,iter1,ifs1,0⟩] scope pos) scope X.env (firstIterPos [⟨tg,iter,ifs,0⟩,⟨tg1,iter1,ifs1,0⟩] pos) (newList []) false (eval iter X.env) use) QQ X.xe s:=by
 have hcells:∀y∈scope.names,y.2=.free->∃c,X.env.cells.lookup y.1=some c:=λy hy hf=>I.ok.has y.1 (Zcq hok y hy hf)
 obtain⟨cl,hcl,up,hfr⟩:=ZhA hcells
 have hk:=Zco hok
 have hcell:=Zcp hok
 refine wpAny_comprehension_free (use:=use) rfl hs hcl hk (ZjD hok) (thn (hi pins s σ H _ I h) λv s1 h1=>thn h1 λitv s2 h2=>?_)
 obtain⟨it,fp,tn,J,H2,e,I2,T,st2,f2,W,⟨m0,w0⟩,turn⟩:=h2
 subst e
 refine wpAny_newObj_type (wpAny_newFunctionEnv hcell (by intro y hy;simp at hy) (λh₁ hns₁ hsb₁=>?_) hk)
 dsimp only at hns₁ hsb₁⊢
 generalize hH2:s2.heap.push {cls:=.type "list",dict:=none,data:=.seq ([]:List Value).toArray}=HH at hns₁ hsb₁⊢
 have hC:HH.objs.size=s2.heap.objs.size+1:=by rw[<-hH2,Heap.size_push]
 have hfl:∀b∈fp,b<s2.heap.objs.size:=λb hb=>by
  obtain⟨o,ho,_⟩:=T.obj 0 _ st2 b hb
  exact Yj ho
 have hDC:s2.heap.objs.size≠HH.objs.size:=by rw[hC];exact Yo (Nat.lt_succ_self _)
 have old:∀b o,s2.heap.get? b=some o->h₁.get? b=some o:=λb o e=>hsb₁.extBut b o (by rw[hC];exact Yo (YN (Yj e))) (Yi _ (hH2▸Yi _ e))
 have hacc:h₁.get? s2.heap.objs.size=some {cls:=.type "list",dict:=none,data:=.seq ([]:List Value).toArray}:=hsb₁.extBut _ _ hDC (Yi _ (hH2▸Yv _ rfl))
 have I4:=Zlz (Nc:=Nc) (js:=js) (tk:=s2.toks+([]:List (Str×Value)).length) I2 hok htk up hfr f2 hfl rfl hC old hns₁ hacc (by intro v z;cases z)
 have st4:tn 0 h₁:=T.keep _ _ _ st2 λb _ o e=>old b o e
 generalize hXc:Zap X Nc scope cl HH.objs.size s2 H2 fp=Xc at I4
 have hXA:Xc.A=X.A:=by rw[<-hXc];rfl
 have hXe:Xc.env=compEnvC scope cl HH.objs.size X.env:=by rw[<-hXc];rfl
 have hXp:Xc.prog=X.prog:=by rw[<-hXc];rfl
 have hXw:Xc.w=X.w:=by rw[<-hXc];rfl
 have hXx:Xc.xe=λ_ _=>False:=by rw[<-hXc];rfl
 have hXk:Xc.K=X.K:=by rw[<-hXc];rfl
 have hXcalm:Xc.calm=true:=by rw[<-hXc];exact hc
 have fpok:∀{pl:List (Addr×Obj)}{H':Hp},(∀p∈pl,s2.heap.objs.size<=p.1)->(∀b∈fp,H' b=none)->∀b∈fp,FpOk Xc pl H' b:=λ{pl H'} hpl hn b hb=>by
  have k1:b≠HH.objs.size:=Yo (by rw[hC];exact YN (hfl b hb))
  have k2:b∉frs X.stack:=λq=>by
   rcases Ym.mp (I2.Zef b q)with z|z
   ·exact(f2 b hb).2.1 z
   ·exact(f2 b hb).2.2.1 z
  rw[<-hXc]
  refine⟨hn b hb,k1,k2,.inl hb,λx c e=>(f2 b hb).2.2.2.2.1 x c (up _ _ e),λp hp=>?_⟩
  have hp':p∈pl:=by simpa[Zap]using hp
  exact Nat.ne_of_gt (Ys (hfl b hb) (hpl p hp'))
 have gX:PG Xc tg g:=hXc▸hg cl HH.objs.size s2 H2 fp
 have tX:Zhj Xc ifs tt:=hXc▸ht cl HH.objs.size s2 H2 fp
 have iX:PI Xc tg1 iter1 wi1:=hXc▸hi1 cl HH.objs.size s2 H2 fp
 have gX1:PG Xc tg1 g1:=hXc▸hg1 cl HH.objs.size s2 H2 fp
 have tX1:Zhj Xc ifs1 tt1:=hXc▸ht1 cl HH.objs.size s2 H2 fp
 have eX:PE Xc elt te:=hXc▸he cl HH.objs.size s2 H2 fp
 have hs0:Xc.s₀=s2:=by rw[<-hXc];rfl
 have hh0:Xc.H₀=H2:=by rw[<-hXc];rfl
 have hfs:Xc.fs=frs X.stack:=by rw[<-hXc];rfl
 have hex:Xc.ex=fp:=by rw[<-hXc];rfl
 have loop:codeAny (model X.prog X.w) X.A (.compLoop (.ListComp elt [⟨tg,iter,ifs,0⟩,⟨tg1,iter1,ifs1,0⟩] scope pos) 0 (.ref it) (.ref s2.heap.objs.size) (compEnvC scope cl HH.objs.size X.env)) (compPost (model X.prog X.w) X.A X.xe use QQ (.ref s2.heap.objs.size) HH.objs.size)
   {s2 with heap:=h₁,toks:=s2.toks+([]:List (Str×Value)).length}:=by
  refine ZjW hs1 (λn s'=>∃i acc its nn H',Inv Xc [(s2.heap.objs.size,{cls:=.type "list",dict:=none,data:=.seq (its:List Value).toArray nn})] (ZW js σ) H' s'/\Vals acc its/\acc.length<=sizeLine/\tn i s'.heap/\(∀b∈fp,H' b=none)/\W i n acc H') ?_ m0
   ⟨0,[],[],0,H2,I4,.nil,Yt _,st4,λb hb=>(f2 b hb).1,w0⟩
  rintro n s3 ⟨i,acc,its,nn,H3,I3,va,hlen,st3,fr3,w3⟩
  have pg:∀p∈([(s2.heap.objs.size,{cls:=.type "list",dict:=none,data:=.seq its.toArray nn})]:List (Addr×Obj)),s2.heap.objs.size<=p.1:=λp hp=>by
   simp only[Ym,List.not_mem_nil,or_false]at hp
   subst hp;exact Yf _
  rcases turn i n acc H3 w3 with⟨stop,hl,qn⟩|⟨go,hl,step⟩
  ·have q:=T.done Xc hXp hXw hXk hXcalm i _ s3 (ZW js σ) H3 (λ_ _=>False) I3 (fpok pg fr3) st3 stop
   rw[hXA]at q
   refine thn q λr s4 ⟨hr,I5⟩=>?_
   subst hr
   have hpin:=I5.pin _ (Yk _ (.head _))
   obtain⟨m5,hn5,_⟩:=I5.loc
   rw[hXe]at hn5
   refine fin _ _ H3 H2 s2 s4 acc m5 I2 (by have:=I5.free;rw[hXe]at this;exact this) hC rfl hn5 (λh' hsb=>?_) (qn _ hpin.2.1)
   have same:∀b o,b≠HH.objs.size->s4.heap.get? b=some o->h'.get? b=some o:=λb o hb e=>hsb.extBut b o hb e
   have un:=I5.base
   rw[hfs,hex,hh0,hs0]at un
   have lt:∀b o,s2.heap.get? b=some o->b<s2.heap.objs.size:=λb o e=>Yj e
   have neC:∀b o,s2.heap.get? b=some o->b≠HH.objs.size:=λb o e=>Yo (by rw[hC];exact YN (lt b o e))
   have neD:∀b o,s2.heap.get? b=some o->b≠s2.heap.objs.size:=λb o e=>Yo (lt b o e)
   have trkC:∀b o,H3 b=some o->b≠HH.objs.size:=λb o e z=>by
    have:=I5.free;rw[hXe]at this;rw[z,show H3 HH.objs.size=none from this]at e;cases e
   refine I2.Zmm (s':={s4 with heap:=h'}) (ch:=fp) (I5.os.trans (by rw[hs0])) ⟨λb o e n hb hx=>same _ _ (neC b o e) (un.keep b o e n hb hx),λb o e n hb hx=>?_,λb o e n hx=>by rw[Zj (neD b o e)];exact un.free b o e n hx,λb o e hx=>?_,λb xs e=>?_,λb o u e=>?_,λb ps e=>?_⟩ (λa o e=>?_) I5.bare λb hb=>⟨(f2 b hb).2.2.2.1,(f2 b hb).2.1,(f2 b hb).2.2.2.2.1,(f2 b hb).2.2.2.2.2⟩
   ·obtain⟨sl,z⟩:=un.slot b o e n hb hx
    exact⟨sl,same _ _ (neC b o e) z⟩
   ·obtain⟨o',z⟩:=un.there b o e hx
    exact⟨o',same _ _ (neC b o e) z⟩
   ·rw[Zj (Yo (I2.hok.lt e))];exact un.tups b xs e
   ·rw[Zj (Yo (I2.hok.lt e))];exact un.frzs b o u e
   ·obtain⟨more,z⟩:=un.tbls b ps e
    exact⟨more,by rw[Zj (Yo (I2.hok.lt e))];exact z⟩
   ·by_cases ha:a=s2.heap.objs.size
    ·subst ha
     rw[Zc]at e;cases e
     exact⟨hl,its,nn,va,same _ _ hDC hpin.1⟩
    ·rw[Zj ha]at e
     have q:=I5.hok a o e
     rw[hXp,hXw]at q
     refine q.ZfQ (λb u hb z=>same b u ?_ z) (λb z=>by rw[Zj];exact z;intro y;subst y;rw[hpin.2.1]at z;cases z) (λb xs z=>by rw[Zj];exact z;intro y;subst y;rw[hpin.2.1]at z;cases z) λb o u z=>by rw[Zj];exact z;intro y;subst y;rw[hpin.2.1]at z;cases z
     rcases hb with hb|hb
     ·subst hb;exact trkC _ _ e
     ·exact trkC _ _ hb
  ·have q:=T.item Xc hXp hXw hXk hXcalm i _ s3 (ZW js σ) H3 (λ_ _=>False) I3 (fpok pg fr3) st3 go
   rw[hXA]at q
   refine thn q λr s4 ⟨u,hr,h4⟩=>?_
   subst hr
   refine thn h4 λ_ s5 ⟨x,H5,I5,r5,y5,st5,fr5⟩=>?_
   have I5':=I5.pinned (fpok pg fr5) (T.obj _ _ st5)
   have again:∀{σ7:St}{H7:Hp}{s7:Shared}{acc7:List V}{its7:List Value}{n7:Nat}{m:Nat},Inv Xc ([(s2.heap.objs.size,{cls:=.type "list",dict:=none,data:=.seq its7.toArray n7})]++Z8 fp s5.heap) σ7 H7 s7->Vals acc7 its7->acc7.length<=sizeLine->W (i+1) m acc7 H7->σ7.length=(ZW js σ).length->(∀(k:Nat) v,(ZW js σ)[k]?=some (some v)->σ7[k]?=some (some v)) ->
     ∃i acc its nn H',Inv Xc [(s2.heap.objs.size,{cls:=.type "list",dict:=none,data:=.seq (its:List Value).toArray nn})] (ZW js σ) H' s7/\Vals acc its/\acc.length<=sizeLine/\tn i s7.heap/\(∀b∈fp,H' b=none)/\W i m acc H':=λ{σ7 H7 s7 acc7 its7 n7 m} I7 v7 l7 w7 hl7 hw7=>by
    refine⟨i+1,acc7,its7,n7,H7,(I7.weak hl7.symm hw7).Zbu,v7,l7,T.keep _ _ _ st5 λb hb o e=>(I7.pin (b,o) (Yk _ (Yk _ (Zas hb e)))).1,λb hb=>?_,w7⟩
    obtain⟨o,e,d⟩:=T.obj _ _ st5 b hb
    exact(I7.pin (b,o) (Yk _ (Yk _ (Zas hb e)))).2.1
   have keep:∀{σ6:St},Zby L (ZW js σ) σ6->σ6.length=(ZW js σ).length/\∀(k:Nat) v,(ZW js σ)[k]?=some (some v)->σ6[k]?=some (some v):=λ{σ6} hk=>⟨hk.1,λk v e=>by
    rw[hk.2 k]
    ·exact e
    ·intro z
     have q:=List.all_eq_true.mp hL k z
     simp only[beq_iff_eq]at q
     unfold ZW at e
     rw[YH,q]at e
     cases e⟩
   have q6:=gX _ s5 (ZW js σ) H5 x u _ I5' r5 (ho _ _ _ _ _ (fun σ' H' kk z=>And.intro kk z) (step x H5 y5))
   rw[hXe,hXA,hXp,hXw,hXx]at q6
   refine thn q6 λ_ s6 ⟨σ6,H6,I6,k6,q6⟩=>?_
   obtain⟨kl,kv⟩:=keep k6
   have q7:=tX _ s6 σ6 H6 _ I6 q6
   rw[hXe,hXA,hXp,hXw,hXx]at q7
   refine thn q7 λb s7 ⟨H7,I7,q7⟩=>?_
   cases b with
   |false =>
    obtain⟨m',hm,w7⟩:=q7
    exact⟨m',hm,again I7 va hlen w7 kl kv⟩
   |true =>
    have q8:=iX _ s7 σ6 H7 _ I7 q7
    rw[hXe,hXA,hXp,hXw,hXx]at q8
    refine thn q8 λy s8 h8=>thn h8 λitv s9 h9=>?_
    obtain⟨it2,fp2,tn2,J2,H9,rfl,I9,T2,st9,f9,W2,⟨m2,w2⟩,turn2⟩:=h9
    rw[hXp,hXw]at T2
    have kv1:∀{σ':St},Zby L1 σ6 σ'->σ'.length=σ6.length/\∀(k:Nat) v,σ6[k]?=some (some v)->σ'[k]?=some (some v):=λ{σ'} hk=>⟨hk.1,λk v e=>by
     rw[hk.2 k]
     ·exact e
     ·intro z
      have q:=List.all_eq_true.mp hL1 k z
      simp only[Bool.and_eq_true,beq_iff_eq,Bool.not_eq_true']at q
      have hk6:=k6.2 k (λzz=>by rw[List.contains_iff_mem.mpr zz]at q;cases q.2)
      rw[hk6]at e
      unfold ZW at e
      rw[YH,q.1]at e
      cases e⟩
    have loop2:codeAny (model X.prog X.w) X.A (.compLoop (.ListComp elt [⟨tg,iter,ifs,0⟩,⟨tg1,iter1,ifs1,0⟩] scope pos) 1 (.ref it2) (.ref s2.heap.objs.size) (compEnvC scope cl HH.objs.size X.env)) (λr s'=>match r with
      |.ok _=>∃m,m<n/\∃i acc its nn H',Inv Xc [(s2.heap.objs.size,{cls:=.type "list",dict:=none,data:=.seq (its:List Value).toArray nn})] (ZW js σ) H' s'/\Vals acc its/\acc.length<=sizeLine/\tn i s'.heap/\(∀b∈fp,H' b=none)/\W i m acc H'
      |.error _=>False) s9:=by
     refine ZjX (λn2 s'=>∃j acc2 its2 nn2 H',Inv Xc ([(s2.heap.objs.size,{cls:=.type "list",dict:=none,data:=.seq (its2:List Value).toArray nn2})]++Z8 fp s5.heap) σ6 H' s'/\Vals acc2 its2/\acc2.length<=sizeLine/\tn2 j s'.heap/\(∀b∈fp2,H' b=none)/\W2 j n2 acc2 H') ?_ m2
      ⟨0,acc,its,nn,H9,I9,va,hlen,st9,λb hb=>(f9 b hb).1,w2⟩
     rintro n2 sA ⟨j,acc2,its2,nn2,HA,IA,va2,hlen2,stA,frA,wA⟩
     have fpok2:∀{its3:List Value}{nn3:Nat}{H':Hp},(∀b∈fp2,H' b=none)->∀b∈fp2,FpOk Xc ([(s2.heap.objs.size,{cls:=.type "list",dict:=none,data:=.seq its3.toArray nn3})]++Z8 fp s5.heap) H' b:=λ{its3 nn3 H'} hn b hb=>by
      obtain⟨z1,z2,z3,z4,z5,z6⟩:=f9 b hb
      refine⟨hn b hb,z2,z3,z4,z5,λp hp=>?_⟩
      rcases Yy.mp hp with z|z
      ·exact z6 p (YG _ z)
      ·rcases Yy.mp z with z|z
       ·simp only[Ym,List.not_mem_nil,or_false]at z
        subst z
        exact z6 (s2.heap.objs.size,{cls:=.type "list",dict:=none,data:=.seq its.toArray nn}) (Yk _ (YG _ (.head _)))
       ·exact z6 p (Yk _ (Yk _ z))
     rcases turn2 j n2 acc2 HA wA with⟨stop,m',hm,wN⟩|⟨go,hl,step⟩
     ·have q:=T2.done Xc hXp hXw rfl hXcalm j _ sA σ6 HA (λ_ _=>False) IA (fpok2 frA) stA stop
      rw[hXA]at q
      refine thn q λr sB ⟨hr,IB⟩=>?_
      subst hr
      exact⟨m',hm,again IB va2 hlen2 wN kl kv⟩
     ·have q:=T2.item Xc hXp hXw rfl hXcalm j _ sA σ6 HA (λ_ _=>False) IA (fpok2 frA) stA go
      rw[hXA]at q
      refine thn q λr sB ⟨u2,hr,hB⟩=>?_
      subst hr
      refine thn hB λ_ sC ⟨x2,HC,IC,rC,yC,stC,frC⟩=>?_
      have IC':=IC.pinned (fpok2 frC) (T2.obj _ _ stC)
      have again2:∀{σ7:St}{H7:Hp}{s7:Shared}{acc7:List V}{its7:List Value}{n7:Nat}{m:Nat},Inv Xc (([(s2.heap.objs.size,{cls:=.type "list",dict:=none,data:=.seq its7.toArray n7})]++Z8 fp s5.heap)++Z8 fp2 sC.heap) σ7 H7 s7->Vals acc7 its7->acc7.length<=sizeLine->W2 (j+1) m acc7 H7->σ7.length=σ6.length->(∀(k:Nat) v,σ6[k]?=some (some v)->σ7[k]?=some (some v)) ->
        ∃j acc2 its2 nn2 H',Inv Xc ([(s2.heap.objs.size,{cls:=.type "list",dict:=none,data:=.seq (its2:List Value).toArray nn2})]++Z8 fp s5.heap) σ6 H' s7/\Vals acc2 its2/\acc2.length<=sizeLine/\tn2 j s7.heap/\(∀b∈fp2,H' b=none)/\W2 j m acc2 H':=λ{σ7 H7 s7 acc7 its7 n7 m} I7 v7 l7 w7 hl7 hw7=>by
       refine⟨j+1,acc7,its7,n7,H7,(I7.weak hl7.symm hw7).Zbu,v7,l7,T2.keep _ _ _ stC λb hb o e=>(I7.pin (b,o) (Yk _ (Yk _ (Zas hb e)))).1,λb hb=>?_,w7⟩
       obtain⟨o,e,d⟩:=T2.obj _ _ stC b hb
       exact(I7.pin (b,o) (Yk _ (Yk _ (Zas hb e)))).2.1
      have qD:=gX1 _ sC σ6 HC x2 u2 _ IC' rC (ho1 _ _ _ _ _ (fun σ' H' kk z=>And.intro kk z) (step x2 HC yC))
      rw[hXe,hXA,hXp,hXw,hXx]at qD
      refine thn qD λ_ sD ⟨σD,HD,ID,kD,qD⟩=>?_
      obtain⟨kl1,kv1'⟩:=kv1 kD
      have qE:=tX1 _ sD σD HD _ ID qD
      rw[hXe,hXA,hXp,hXw,hXx]at qE
      refine thn qE λb sE ⟨HE,IE,qE⟩=>?_
      cases b with
      |false =>
       obtain⟨m',hm,wE⟩:=qE
       exact⟨m',hm,again2 IE va2 hlen2 wE kl1 kv1'⟩
      |true =>
       have qF:=eX _ sE σD HE _ IE qE
       rw[hXe,hXA,hXp,hXw,hXx]at qF
       refine thn qF λy sF ⟨vF,HF,IF,rF,m',hm,wF⟩=>?_
       have pinD:=IF.pin _ (Yk _ (YG _ (YG _ (.head _))))
       have hnf:∀p∈Z8 fp s5.heap++Z8 fp2 sC.heap,p.1≠s2.heap.objs.size:=λp hp=>by
        rcases Yy.mp hp with z|z
        ·obtain⟨z,_⟩:=ZeY z
         exact Yo (hfl _ z)
        ·obtain⟨z,_⟩:=ZeY z
         obtain⟨_,_,_,_,_,z6⟩:=f9 _ z
         exact λzz=>z6 _ (Yk _ (YG _ (.head _))) zz.symm
       have va':=va2.length
       refine call_meets F.slot_list_append ⟨_,pinD.1,rfl⟩ F.entry_list_append (F.args_list_append_2 _ _) (PySem.list_append s2.heap.objs.size its2.toArray nn2 y (by rw[Yr];omega)) ⟨pinD.1,?_⟩
       have e9:=PySem.IsL.update pinD.1 (λa=>a.push y)
       have e9':its2.toArray.push y=(its2++[y]).toArray:=by simp
       dsimp only at e9
       rw[e9']at e9
       have I8':Inv Xc (Z8 fp s5.heap++Z8 fp2 sC.heap) σD HF sF:=IF.ZU λp hp=>IF.pin p (Yk _ (by rw[YI];exact Yk _ hp))
       have hXpn:Xc.pn=[]:=by rw[<-hXc];rfl
       have I9:=I8'.turned (t':=sF.toks) (it:=s2.heap.objs.size) (h':=sF.heap.update s2.heap.objs.size (Obj.mapSeq λa=>a.push y)) (λb o hb e=>(Heap.get?_update_other sF.heap _ (Ne.symm hb)).trans e) pinD.2.1 pinD.2.2.1
        (.inr (by rw[hs0];exact Yf _)) (λx c e=>by
         rw[hXe]at e
         intro z
         obtain⟨v,q⟩:=I2.cell x c (up _ _ e)
         exact absurd q.lt (by rw[z];exact YA _)) (λp hp=>by rw[hXpn,List.nil_append]at hp;exact hnf p hp)
       have I10:=I9.ZU (pins':=([(s2.heap.objs.size,{cls:=.type "list",dict:=none,data:=.seq (its2++[y]).toArray _})]++Z8 fp s5.heap)++Z8 fp2 sC.heap) λp hp=>by
        rw[YI]at hp
        rcases Yy.mp hp with z|z
        ·simp only[Ym,List.not_mem_nil,or_false]at z
         subst z
         exact⟨e9,pinD.2.1,pinD.2.2.1,pinD.2.2.2.1,by intro v z;cases z⟩
        ·exact I9.pin p (Yk _ z)
       exact⟨m',hm,again2 I10 (va2.append (.cons rF .nil)) (by rw[YL,List.length_singleton];omega) wF kl1 kv1'⟩
    refine wpAny_runOwn ?_
    refine codeAny_mono (ZhQ loop2 (T2.self _ 0 _ _ _ st9 loop2)) λr s' hr=>?_
    cases r with
    |ok f=>exact hr
    |error e=>exact hr.elim
 exact codeAny_compStart_list loop (T.self _ 0 _ _ _ st4 loop)
theorem ZpG {i:Nat}{x:Str}{pos' spos:Pos}{tg elt iter tg1 iter1:Expr}{ifs ifs1:List Expr}{scope:Scope}{pos:Pos}{wi wi1:TI}{g g1:TG}{tt tt1:TT}{te:TE} (Nc:List Str) (js:List (Option Nat)) {L L1:List Nat}
  (hN:X.N.Nodup) (hxi:X.N[i]?=some x) (hx:Loc X.env.scope x)
  (hc:X.calm=true) (hok:compOk X.env.scope scope=true) (htk:takesC X.N Nc scope js 0=true) (hi:PI X tg iter wi)
  (hg:∀cl C s2 H2 fp,PG (Zap X Nc scope cl C s2 H2 fp) tg g) (ht:∀cl C s2 H2 fp,Zhj (Zap X Nc scope cl C s2 H2 fp) ifs tt) (hi1:∀cl C s2 H2 fp,PI (Zap X Nc scope cl C s2 H2 fp) tg1 iter1 wi1) (hg1:∀cl C s2 H2 fp,PG (Zap X Nc scope cl C s2 H2 fp) tg1 g1) (ht1:∀cl C s2 H2 fp,Zhj (Zap X Nc scope cl C s2 H2 fp) ifs1 tt1) (he:∀cl C s2 H2 fp,PE (Zap X Nc scope cl C s2 H2 fp) elt te)
  (ho:Zff g L) (ho1:Zff g1 L1) (hL:(L.all λk=>js[k]?==some none)=true:=by rfl) (hL1:(L1.all λk=>js[k]?==some none&&!L.contains k)=true:=by rfl) (hs:∀x,foldedSetIterable iter X.env x=pure x:=by intro _;rfl) (hs1:∀env x,foldedSetIterable iter1 env x=pure x:=by intro _ _;rfl)
  (hsw:swapsWith (.ListComp elt [⟨tg,iter,ifs,0⟩,⟨tg1,iter1,ifs1,0⟩] scope pos) (some (.Name x pos')) spos.line X.env=pure true:=by rfl)
  (hf:X.fn x=true\/X.env.scope.names.lookup x=some .local:=by first|exact .inl rfl|exact .inr rfl|assumption) :
  PS X (.Assign [.Name x pos'] (.ListComp elt [⟨tg,iter,ifs,0⟩,⟨tg1,iter1,ifs1,0⟩] scope pos) spos) (Zm1 (ZlZ wi g tt wi1 g1 tt1 te js) (Zfe i)):=by
 intro pins s σ H D I h
 rw[exec_Assign_Name_used _ _ _ _ hsw]
 refine Ya (wpAny_standAt (Ya ?_))
 show wpAny _ _ (comprehension _ _ _ _ _ _ _ _ >>= _) _ _ _
 refine Ya (thn (Q:=λ_ s'=>∃σ' H',Inv X pins σ' H' s'/\D.nx σ' H') (ZnC (Q:=λv H1=>Zfe i v σ H1 D.nx) (use:=some (assign (.Name x pos') X.env)) hc hok htk hi hg ht hi1 hg1 ht1 he hs hs1 ho ho1 hL hL1 I h ?_) λ_ s' ⟨σ',H',I',q⟩=>Yc (Yc ⟨σ',H',I',q⟩))
 intro D' C H' H2 s2 s' xs m I2 hHC e1 e2 hn hI q
 obtain⟨oC,es,ep,hoC,hdC,hrest⟩:=id hn
 have leC:s2.heap.objs.size<=C:=by rw[e1,e2];exact YS _
 have ltC:s2.heap.objs.size<C:=by rw[e1,e2];exact Nat.lt_succ_self _
 have neDC:C≠D':=by rw[e2];exact Nat.ne_of_gt ltC
 have fresh:s2.heap.get? C=none:=by
  cases e:s2.heap.get? C with
  |none=>rfl
  |some o=>exact absurd (Ys (Yj e) leC) (YA _)
 have neL:C≠X.env.locals:=Nat.ne_of_gt (Ys I2.lt leC)
 have nfs:C∉X.fs:=I2.Zlq leC
 have ncl:∀x c,X.env.cells.lookup x=some c->c≠C:=λx c e z=>by
  obtain⟨v,q⟩:=I2.cell x c e
  exact absurd (Ys q.lt leC) (by rw[z];exact YA _)
 have npn:∀p∈X.pn++pins,p.1≠C:=λp hp z=>by
  have:=(I2.pin p hp).1
  rw[z,fresh]at this;cases this
 have hH:(upd H' D' (HO.lst xs)) C=none:=by rw[Zj neDC];exact hHC
 have I0:=hI s'.heap ZfX
 have I1:Inv X (pins++[(C,oC)]) σ (upd H' D' (.lst xs)) s':=I0.ZU λp hp=>by
  rcases Yy.mp hp with z|z
  ·exact I0.pin p (Yk _ z)
  ·simp only[Ym,List.not_mem_nil,or_false]at z
   subst z
   exact⟨hoC,hH,neL,nfs,λv z=>by rw[hdC]at z;cases z⟩
 show wpAny _ _ _ _ _ _
 refine thn (Zr (X:=X) (i:=i) hN hxi hx hf (pins++[(C,oC)]) s' σ _ (.ref D') (.ref D') _ I1 rfl q) λ_ s3 ⟨σ3,H3,I3,q3⟩=>?_
 have pC:=I3.pin (C,oC) (Yk _ (Yk _ (.head _)))
 refine⟨m,⟨oC,es,ep,pC.1,hdC,hrest⟩,λh' hsb=>⟨σ3,H3,?_,q3⟩⟩
 exact I3.Zbu.turned (t':=s3.toks) (it:=C) (λb o hb e=>hsb.extBut b o hb e) pC.2.1 neL (.inr (Yn I2.sz leC)) ncl npn
end
end L2
namespace L2
open PySem PySem.Spec PyProof.Rows PySem.W
noncomputable def ZaU (H:Hp) (acc:List V) (rs:List (List Int)):Prop:=∃as:List Addr,acc=as.map V.ref/\as.length=rs.length/\∀i (h1:i<as.length) (h2:i<rs.length),H as[i]=some (.tup (rs[i].map V.int))
theorem ZaU.nil {H:Hp}:ZaU H [] []:=⟨[],rfl,rfl,λi h=>absurd h (by simp)⟩
theorem ZaU.same {H H':Hp}{acc:List V}{rs:List (List Int)} (h:ZaU H acc rs) (s:Zg H H'):ZaU H' acc rs:=by
 obtain⟨as,e,l,k⟩:=h
 exact⟨as,e,l,λi h1 h2=>s _ _ (k i h1 h2)⟩
theorem ZaU.len {H:Hp}{acc:List V}{rs:List (List Int)} (h:ZaU H acc rs):acc.length=rs.length:=by
 obtain⟨as,e,l,k⟩:=h
 rw[e,Yl,l]
theorem ZaU.snoc {H:Hp}{acc:List V}{rs:List (List Int)}{u:Addr}{r:List Int} (h:ZaU H acc rs) (hu:H u=some (.tup (r.map V.int))):ZaU H (acc++[V.ref u]) (rs++[r]):=by
 obtain⟨as,e,l,k⟩:=h
 refine⟨as++[u],by rw[e];simp,by simp[l],λi h1 h2=>?_⟩
 by_cases c:i<as.length
 ·rw[List.getElem_append_left c,List.getElem_append_left (by omega)];exact k i c (by omega)
 ·have:i=as.length:=by simp at h1;omega
  subst this
  rw[List.getElem_concat_length,List.getElem_append_right (by omega)]
  simpa[l]using hu
  rfl
theorem ZaU.at {H:Hp}{acc:List V}{rs:List (List Int)}{l:Addr} (h:ZaU H acc rs) (hl:H l=none):ZjS (upd H l (.lst acc)) l rs:=by
 obtain⟨as,e,ln,k⟩:=h
 refine⟨as,by rw[Zc,e],ln,λi h1 h2=>?_⟩
 rw[Zj (λz=>by have:=k i h1 h2;rw[z,hl]at this;cases this)]
 exact k i h1 h2
noncomputable def C2W (n:Nat) (U:Nat->List (List Int)) (H1:Hp) (i m:Nat) (acc:List V) (H:Hp):Prop:=m=n-i/\i<=n/\ZaU H acc (U i)/\Zg H1 H
theorem C2W.next {n:Nat}{U:Nat->List (List Int)}{H1 H:Hp}{i:Nat}{acc:List V} (hi:i<n) (t:ZaU H acc (U (i+1))) (s:Zg H1 H):∃m',m'<n-i/\C2W n U H1 (i+1) m' acc H:=⟨n-(i+1),by omega,rfl,hi,t,s⟩
theorem Zl0 {J:It}{g:TG}{tt:TT}{wi1:TI}{g1:TG}{tt1:TT}{te:TE}{σ0:St}{Q:VK}{H1:Hp} (n:Nat) (U:Nat->List (List Int)) (h0:U 0=[]) (hl:∀i,i<=n->(U i).length<=100000)
  (hgo:∀i H,Zg H1 H->i<n->J.go i H) (hstop:∀H,Zg H1 H->J.stop n H)
  (hb:∀i x acc H H',i<n->ZaU H acc (U i)->Zg H1 H->J.yld i H x H'->g x σ0 H' fun σ2 H2=>tt σ2 H2 λb H3=>if b=true then wi1 σ2 H3 λJ2 H4=>ZjY J2 g1 tt1 te σ2 acc (λacc2 H5=>∃m',m'<n-i/\C2W n U H1 (i+1) m' acc2 H5) H4 else ∃m',m'<n-i/\C2W n U H1 (i+1) m' acc H3)
  (hk:∀l acc H',Zg H1 H'->H' l=none->ZaU H' acc (U n)->Q (.ref l) (upd H' l (.lst acc))):ZlY J g tt wi1 g1 tt1 te σ0 Q H1:=by
 refine⟨C2W n U H1,⟨n,rfl,Yt _,by rw[h0];exact ZaU.nil,Zg.refl _⟩,?_⟩
 rintro i m acc H ⟨rfl,hi,t,s⟩
 have hlen:acc.length<=sizeLine:=Yn (t.len▸hl i hi) (by decide)
 by_cases h:i<n
 ·exact .inr ⟨hgo i H s h,hlen,λx H' y=>hb i x acc H H' h t s y⟩
 ·have e:i=n:=by omega
  subst e
  exact .inl ⟨hstop H s,hlen,λp hp=>hk p acc H s hp t⟩
theorem ZpH {J2:It}{g1:TG}{tt1:TT}{te:TE}{σ2:St}{acc:List V}{F:List V->Hp->Prop}{H4:Hp} (k:Nat) (V':Nat->List (List Int)) (h0:ZaU H4 acc (V' 0)) (hl:∀j,j<=k->(V' j).length<=100000)
  (hgo:∀j H,Zg H4 H->j<k->J2.go j H) (hstop:∀H,Zg H4 H->J2.stop k H)
  (hb:∀j x acc2 H5 H6,j<k->ZaU H5 acc2 (V' j)->Zg H4 H5->J2.yld j H5 x H6->g1 x σ2 H6 fun σ3 H7=>tt1 σ3 H7 λb2 H8=>if b2=true then te σ3 H8 λv H9=>∃m',m'<k-j/\C2W k V' H4 (j+1) m' (acc2++[v]) H9 else ∃m',m'<k-j/\C2W k V' H4 (j+1) m' acc2 H8)
  (hF:∀acc2 H5,ZaU H5 acc2 (V' k)->Zg H4 H5->F acc2 H5):ZjY J2 g1 tt1 te σ2 acc F H4:=by
 refine⟨C2W k V' H4,⟨k,rfl,Yt _,h0,Zg.refl _⟩,?_⟩
 rintro j m acc2 H ⟨rfl,hj,t,s⟩
 have hlen:acc2.length<sizeLine:=YE (t.len▸hl j hj) (by decide)
 by_cases h:j<k
 ·exact .inr ⟨hgo j H s h,hlen,λx H' y=>hb j x acc2 H H' h t s y⟩
 ·have e:j=k:=by omega
  subst e
  exact .inl ⟨hstop H s,hF acc2 H t s⟩
noncomputable def ZaS (ns:List V) (i:Nat):V:=ns.getD i .non
noncomputable def Zc5 (kz:V->Int) (ns:List V) (m i:Nat):Prop:=∀j,j<m->kz (ZaS ns j)<=kz (ZaS ns i)/\(j<i->kz (ZaS ns j)<kz (ZaS ns i))
theorem Zc5.one (kz:V->Int) (ns:List V):Zc5 kz ns 1 0:=λj hj=>⟨by rw[show j=0 by omega];exact Int.le_refl _,λh=>absurd h (by omega)⟩
theorem Zc5.take {kz:V->Int}{ns:List V}{m i:Nat} (h:Zc5 kz ns m i) (hi:i<m) (c:kz (ZaS ns m)>kz (ZaS ns i)):Zc5 kz ns (m+1) m:=λj hj=>by
 by_cases e:j=m
 ·subst e;exact⟨Int.le_refl _,λh=>absurd h (by omega)⟩
 ·have:=(h j (by omega)).1
  exact⟨by omega,λ_=>by omega⟩
theorem Zc5.keep {kz:V->Int}{ns:List V}{m i:Nat} (h:Zc5 kz ns m i) (hi:i<m) (c:¬ kz (ZaS ns m)>kz (ZaS ns i)):Zc5 kz ns (m+1) i:=λj hj=>by
 by_cases e:j=m
 ·subst e;exact⟨by omega,λz=>absurd z (by omega)⟩
 ·exact h j (by omega)
section
variable {X:Cx}
theorem ZnD {pins:List (Addr×Obj)}{σ:St}{H:Hp}{A:Around}{R:Result->Shared->Prop}{d:Value}{dk:Str}{l I S q:Addr}{ns:List V}{kz:V->Int}
  (hh:A.handled=none) (hlI:l≠I) (hSI:S≠I) (hI0:X.s₀.heap.objs.size<=I) (hS0:X.s₀.heap.objs.size<=S) (hp:∀p∈X.pn++pins,p.1≠I/\p.1≠S) (hl:H l=some (.lst ns))
  (turn:∀(H':Hp) (s':Shared) (pins':List (Addr×Obj)) (n:V) (u:Value),n∈ns->Inv X pins' σ H' s'->Zg H H'->RelV n u->wpAny (model X.prog X.w) A.in1 (call (.ref q) [u]) (EP X pins' σ λv H2=>v=.int (kz n)/\Zg H' H2) (λ_ _=>False) s')
  (hR0:ns=[]->∀H' s',Inv X pins σ H' s'->Zg H H'->R (.ok (.ret d)) s')
  (hR:∀(i:Nat) (v:Value) H' s',i<ns.length->RelV (ZaS ns i) v->Zc5 kz ns ns.length i->Inv X pins σ H' s'->Zg H H'->R (.ok (.ret v)) s') :
  ∀(r j:Nat) (H':Hp) (s':Shared) (buf:Array Value) (c:Nat) (oI:Obj),ns.length-j=r->j<=ns.length->Inv X ((S,seqObj "list" buf c)::(I,oI)::pins) σ H' s'->Zg H H'->s'.heap.IsListIter I l j ->
   ((j=0/\buf=#[])\/∃(i:Nat) (vb:Value) (tb:Tok),i<j/\buf=#[vb,.int (kz (ZaS ns i)) tb]/\RelV (ZaS ns i) vb/\Zc5 kz ns j i) ->
   codeAny (model X.prog X.w) A (.builtin "max.loop" ⟨[.ref I,.ref q,.ref S],[(dk,d)]⟩) R s':=by
 have hname:(toString "max"++toString ".loop":String)="max.loop":=by decide
 intro r
 induction r with
 |zero =>
  intro j H' s' buf c oI hr hj J sm hit hb
  have hjn:j=ns.length:=by omega
  obtain⟨oS,nS,lS,fS,_,cS⟩:=ZaA J (Yx ..)
  obtain⟨oI',nI,lI,fI,dI,cI⟩:=ZaA J (Yz _ (Yx ..))
  obtain⟨its,rv,pl,_⟩:=J.list (SqL.of (sm _ _ hl))
  have hlen:its.length=ns.length:=by have:=rv.length;omega
  have hsz:its.toArray.size=its.length:=Yr ..
  have W:=Walks.list (prog:=X.prog) (w:=X.w) (A:=A.in1) hh I l hlI its.toArray
  have J0:Inv X pins σ H' s':=J.ZU λp hp'=>J.pin p (Yk _ (Yz _ (Yz _ hp')))
  refine codeAny_builtin PySem.F.entry_max_loop ?_
  rw[Around.under_plainId PySem.F.plain_max_loop _]
  show wpAny _ A.in1 (seqItems? (.ref S) >>= _) _ _ _
  refine Ya (wpAny_seqItems oS rfl ?_)
  rcases hb with⟨hj0,rfl⟩|⟨i,vb,tb,hi,rfl,rvb,hB⟩
  ·refine Ya (wpAny_tryCatch (W.done _ _ _ ⟨by rw[hsz,hlen,<-hjn];exact hit,pl.isList⟩ λh' tk' hk'=>?_))
   refine Ya (wpAny_rule (Yc ?_))
   exact hR0 (List.length_eq_zero_iff.mp (by omega)) H' _ (J0.turned (it:=I) (λb o nb e=>hk' b o (by simpa using nb) e) nI lI (.inr hI0) cI λp hp'=>(hp p hp').1) sm
  ·refine Ya (wpAny_tryCatch (W.done _ _ _ ⟨by rw[hsz,hlen,<-hjn];exact hit,pl.isList⟩ λh' tk' hk'=>?_))
   have hS':=hk' S _ (by simpa using hSI) oS
   have J1:=J0.turned (t':=tk') (h':=h') (it:=I) (λb o nb e=>hk' b o (by simpa using nb) e) nI lI (.inr hI0) cI λp hp'=>(hp p hp').1
   refine Ya (wpAny_updateSeq hS' rfl ?_ (show 2<=sizeLine by decide) (Yt _))
   refine Ya (wpAny_letGo (Yc ?_))
   have J2:=J1.turned (t':=tk') (h':=h'.update S (Obj.mapSeq λ_=>(#[]:Array Value))) (it:=S) (λb o nb e=>(Heap.get?_update_ne _ _ _ _ nb).trans e) nS lS (.inr hS0) cS λp hp'=>(hp p hp').2
   exact hR i vb H' _ (by omega) rvb (hjn▸hB) J2 sm
 |succ r ih =>
  intro j H' s' buf c oI hr hj J sm hit hb
  have hlt:j<ns.length:=by omega
  obtain⟨oS,nS,lS,fS,_,cS⟩:=ZaA J (Yx ..)
  obtain⟨oI',nI,lI,fI,dI,cI⟩:=ZaA J (Yz _ (Yx ..))
  obtain⟨its,rv,pl,_⟩:=J.list (SqL.of (sm _ _ hl))
  have hlen:its.length=ns.length:=by have:=rv.length;omega
  have hsz:its.toArray.size=its.length:=Yr ..
  have W:=Walks.list (prog:=X.prog) (w:=X.w) (A:=A.in1) hh I l hlI its.toArray
  have J0:Inv X ((S,seqObj "list" buf c)::pins) σ H' s':=J.ZU λp hp'=>J.pin p (Yk _ (by
   rcases Ym.mp hp' with z|z
   ·exact Ym.mpr (.inl z)
   ·exact Yz _ (Yz _ z)))
  refine codeAny_builtin PySem.F.entry_max_loop ?_
  rw[Around.under_plainId PySem.F.plain_max_loop _]
  show wpAny _ A.in1 (seqItems? (.ref S) >>= _) _ _ _
  refine Ya (wpAny_seqItems oS rfl ?_)
  have step:∀(v:Value) (h':Heap) (tk':Nat),its.toArray[j]?=some v->h'.IsListIter I l (j+1)/\h'.IsList l its.toArray->(∀b o,b∉[I]->s'.heap.get? b=some o->h'.get? b=some o)->RelV (ZaS ns j) v/\∃oI2,h'.get? I=some oI2/\Inv X ((S,seqObj "list" buf c)::(I,oI2)::pins) σ H' {s' with heap:=h',toks:=tk'}:=λv h' tk' hP hst hk'=>by
   refine⟨?_,?_⟩
   ·obtain⟨v',e1,e2⟩:=rv.get (i:=j) (x:=ZaS ns j) (by unfold ZaS;rw[Yp,Yh hlt];rfl)
    have:its[j]?=some v:=by simpa using hP
    rw[e1]at this;cases this;exact e2
   ·obtain⟨oI2,g2,hcls,hdat⟩:=id hst.1
    have J1:=J0.turned (t':=tk') (h':=h') (it:=I) (λb o nb e=>hk' b o (by simpa using nb) e) nI lI (.inr hI0) cI λp hp'=>by
     rcases Yy.mp hp' with z|z
     ·exact(hp p (YG _ z)).1
     ·rcases Ym.mp z with rfl|z
      ·exact hSI
      ·exact(hp p (Yk _ z)).1
    refine⟨oI2,g2,J1.ZU λp hp'=>?_⟩
    rcases Ym.mp hp' with rfl|hp'
    ·exact J1.pin _ (Yk _ (Yx ..))
    ·rcases Ym.mp hp' with rfl|hp'
     ·exact⟨g2,nI,lI,fI,λv z=>by rw[hdat]at z;cases z⟩
     ·exact J1.pin _ (Yk _ (Yz _ hp'))
  have write:∀{H2:Hp}{s2:Shared}{oI2:Obj} (v:Value) (t2:Tok) (b2:Array Value) (c0:Nat),Inv X ((S,seqObj "list" b2 c0)::(I,oI2)::pins) σ H2 s2->∃c2,Inv X ((S,seqObj "list" #[v,.int (kz (ZaS ns j)) t2] c2)::(I,oI2)::pins) σ H2 {s2 with heap:=s2.heap.update S (Obj.mapSeq λ_=>#[v,.int (kz (ZaS ns j)) t2])}:=λ{H2 s2 oI2} v t2 b2 c0 K=>by
   obtain⟨o2,n2,l2,f2,_,cc2⟩:=ZaA K (Yx ..)
   obtain⟨c2,hc2⟩:∃c2,(s2.heap.update S (Obj.mapSeq λ_=>#[v,.int (kz (ZaS ns j)) t2])).get? S=some (seqObj "list" #[v,.int (kz (ZaS ns j)) t2] c2):=⟨_,get?_update_seq o2 λ_=>#[v,.int (kz (ZaS ns j)) t2]⟩
   have K0:Inv X ((I,oI2)::pins) σ H2 s2:=K.ZU λp hp'=>K.pin p (Yk _ (Yz _ hp'))
   have K1:=K0.turned (t':=s2.toks) (h':=s2.heap.update S (Obj.mapSeq λ_=>#[v,.int (kz (ZaS ns j)) t2])) (it:=S) (λb o nb e=>(Heap.get?_update_ne _ _ _ _ nb).trans e) n2 l2 (.inr hS0) cc2 λp hp'=>by
    rcases Yy.mp hp' with z|z
    ·exact(hp p (YG _ z)).2
    ·rcases Ym.mp z with rfl|z
     ·exact hSI.symm
     ·exact(hp p (Yk _ z)).2
   refine⟨c2,K1.ZU λp hp'=>?_⟩
   rcases Ym.mp hp' with rfl|hp'
   ·exact⟨hc2,n2,l2,f2,λv z=>by cases z⟩
   ·exact K1.pin p (Yk _ hp')
  have mem:ZaS ns j∈ns:=by unfold ZaS;rw[Yp,Yh hlt];exact YR hlt
  rcases hb with⟨hj0,rfl⟩|⟨i,vb,tb,hi,rfl,rvb,hB⟩
  ·refine Ya (wpAny_tryCatch (W.item j _ _ _ (by rw[hsz,hlen];exact hlt) ⟨hit,pl.isList⟩ λv h' tk' hP hst' hk'=>?_))
   obtain⟨rj,oI2,gI,J2⟩:=step v h' tk' hP hst' hk'
   obtain⟨oI3,gI3,hcls,hdat⟩:=id hst'.1
   rw[gI]at gI3;cases gI3
   refine Ya (wpAny_tryCatch (wpAny_holding (Yu (turn H' _ _ _ v mem J2 sm rj) (λx s'' he=>?_) λ_ _ hF=>hF.elim)))
   obtain⟨x2,H2,J3,r2,rfl,sm2⟩:=he
   obtain⟨t2,rfl⟩:=r2
   obtain⟨oS3,_⟩:=ZaA J3 (Yx ..)
   obtain⟨oI4,_⟩:=ZaA J3 (Yz _ (Yx ..))
   obtain⟨c2,J4⟩:=write v t2 _ _ J3
   refine Ya (wpAny_updateSeq oS3 rfl ?_ (Yt _) (show 2<=sizeLine+1 by decide))
   rw[hname]
   refine Yc ⟨plainId_quiet PySem.F.plain_max_loop _,ih (j+1) H2 _ _ c2 oI2 (by omega) hlt J4 (sm.trans sm2) ⟨oI2,(Heap.get?_update_ne _ _ _ _ hSI.symm).trans oI4,hcls,hdat⟩ (.inr ⟨j,v,t2,by omega,rfl,rj,?_⟩)⟩
   subst hj0;exact Zc5.one kz ns
  ·refine Ya (wpAny_tryCatch (W.item j _ _ _ (by rw[hsz,hlen];exact hlt) ⟨hit,pl.isList⟩ λv h' tk' hP hst' hk'=>?_))
   obtain⟨rj,oI2,gI,J2⟩:=step v h' tk' hP hst' hk'
   obtain⟨oI3,gI3,hcls,hdat⟩:=id hst'.1
   rw[gI]at gI3;cases gI3
   refine Ya (wpAny_tryCatch (wpAny_holding (Yu (turn H' _ _ _ v mem J2 sm rj) (λx s'' he=>?_) λ_ _ hF=>hF.elim)))
   obtain⟨x2,H2,J3,r2,rfl,sm2⟩:=he
   obtain⟨t2,rfl⟩:=r2
   obtain⟨oS3,_⟩:=ZaA J3 (Yx ..)
   obtain⟨oI4,_⟩:=ZaA J3 (Yz _ (Yx ..))
   refine Ya (wpAny_tryCatch (wpAny_holding (Ya (CmpOf.ints_gt (prog:=X.prog) (w:=X.w) (A:=A.in1) (P:=λi v=>∃t,v=.int (kz (ZaS ns i)) t) (λi=>kz (ZaS ns i)) (λi v h=>h) j i _ _ _ _ _ ⟨t2,rfl⟩ ⟨tb,rfl⟩ ?_))))
   refine Ya (wpAny_holding (wpAny_truthy_bool ?_))
   refine Ya (wpAny_letGo (Yc ?_))
   by_cases hb':kz (ZaS ns j)>kz (ZaS ns i)
   ·simp only[hb',decide_true,if_true]
    obtain⟨c2,J4⟩:=write v t2 _ _ J3
    refine Ya (wpAny_updateSeq oS3 rfl (Ya (wpAny_letGo ?_)) (show 2<=sizeLine by decide) (show 2<=sizeLine+1 by decide))
    rw[hname]
    exact Yc ⟨plainId_quiet PySem.F.plain_max_loop _,ih (j+1) H2 _ _ c2 oI2 (by omega) hlt J4 (sm.trans sm2) ⟨oI2,(Heap.get?_update_ne _ _ _ _ hSI.symm).trans oI4,hcls,hdat⟩ (.inr ⟨j,v,t2,by omega,rfl,rj,hB.take hi hb'⟩)⟩
   ·simp only[hb',decide_false,Bool.false_eq_true,if_false]
    refine Ya (wpAny_letGo ?_)
    rw[hname]
    exact Yc ⟨plainId_quiet PySem.F.plain_max_loop _,ih (j+1) H2 _ _ c oI2 (by omega) hlt J3 (sm.trans sm2) ⟨oI2,oI4,hcls,hdat⟩ (.inr ⟨i,vb,tb,by omega,rfl,rvb,hB.keep hi hb'⟩)⟩
theorem maxVD {pins:List (Addr×Obj)}{σ:St}{H:Hp}{s:Shared}{l q:Addr}{ns:List V}{kz:V->Int}{d:Value}{dv:V}{Q:VK} (I:Inv X pins σ H s) (hc:X.calm=true) (hl:H l=some (.lst ns)) (rd:RelV dv d)
  (turn:∀(H':Hp) (s':Shared) (pins':List (Addr×Obj)) (n:V) (u:Value),n∈ns->Inv X pins' σ H' s'->Zg H H'->RelV n u->wpAny (model X.prog X.w) X.A.in1 (call (.ref q) [u]) (EP X pins' σ λv H2=>v=.int (kz n)/\Zg H' H2) (λ_ _=>False) s')
  (fin0:ns=[]->∀H',Zg H H'->Q dv H') (fin:∀i H',i<ns.length->Zc5 kz ns ns.length i->Zg H H'->Q (ZaS ns i) H') :
  wpAny (model X.prog X.w) X.A (call (.builtin "max") [.ref l] [(Str.ofString "key",.ref q),(Str.ofString "default",d)]) (EP X pins σ Q) X.xe s:=by
 have hname:(toString "max"++toString ".loop":String)="max.loop":=by decide
 obtain⟨its,rv,pl,_⟩:=I.list (SqL.of hl)
 obtain⟨ol,hol,_⟩:=id pl.isList
 have hll:l<s.heap.objs.size:=Yj hol
 refine kmk_tree PySem.F.kind_max PySem.F.plain_max PySem.F.entry_max (ZlS _ _ _) ?_
 show wpAny _ X.A.in1 (Builtin.Builtins.bindParams "max" ["key","default"] 0 ⟨[],[(Str.ofString "key",.ref q),(Str.ofString "default",d)]⟩ >>= _) _ _ s
 refine Ya (wpAny_of_eq (show Builtin.Builtins.bindParams "max" ["key","default"] 0 ⟨[],[(Str.ofString "key",.ref q),(Str.ofString "default",d)]⟩=pure [some (.ref q),some d]from rfl) ?_)
 refine Ya (Yc ?_)
 refine Ya (wpAny_pyIter_list pl.isList ?_)
 refine Ya (wpAny_newList ?_ (Yt _))
 rw[hname]
 refine Yc ⟨plainId_quiet PySem.F.plain_max_loop _,?_⟩
 have hS:(s.heap.push {cls:=.type "list_iterator",data:=.fields #[.ref l,.int 0 0]}).objs.size=s.heap.objs.size+1:=size_push' ..
 have I2:=I.kept (h':=(s.heap.push {cls:=.type "list_iterator",data:=.fields #[.ref l,.int 0 0]}).push (seqObj "list" #[] 0)) (t':=s.toks) λb o e=>Yi _ (Yi _ e)
 have gI:((s.heap.push {cls:=.type "list_iterator",data:=.fields #[.ref l,.int 0 0]}).push (seqObj "list" #[] 0)).get? s.heap.objs.size=some {cls:=.type "list_iterator",data:=.fields #[.ref l,.int 0 0]}:=Yi _ (Yv _ rfl)
 have gS:((s.heap.push {cls:=.type "list_iterator",data:=.fields #[.ref l,.int 0 0]}).push (seqObj "list" #[] 0)).get? (s.heap.objs.size+1)=some (seqObj "list" #[] 0):=by rw[<-hS];exact Yv _ rfl
 rw[hS]
 refine ZnD (pins:=pins) (H:=H) (ns:=ns) (kz:=kz) (I.ok.hd hc) (Yo hll) (Nat.ne_of_gt (Nat.lt_succ_self _)) I.sz (Nat.le_succ_of_le I.sz) (λp hp=>?_) hl turn (λz H' s' J sm=>⟨dv,H',J,rd,fin0 z H' sm⟩) (λi v H' s' hi r hB J sm=>⟨ZaS ns i,H',J,r,fin i H' hi hB sm⟩) _ 0 H _ #[] 0 {cls:=.type "list_iterator",data:=.fields #[.ref l,.int 0 0]} rfl (Yt _) (I2.ZU λp hp=>?_) (Zg.refl H) ⟨_,gI,rfl,rfl⟩ (.inl ⟨rfl,rfl⟩)
 ·have:=Yj (I.pin p hp).1
  exact⟨Yo this,Yo (YN this)⟩
 ·rcases Ym.mp hp with rfl|hp
  ·exact⟨gS,I.hok.fresh (YS _),Nat.ne_of_gt (YN I.lt),I.Zlq (YS _),λv z=>by cases z⟩
  ·rcases Ym.mp hp with rfl|hp
   ·exact⟨gI,I.hok.fresh (Yf _),Nat.ne_of_gt I.lt,I.Zlq (Yf _),λv z=>by cases z⟩
   ·exact I2.pin p (Yk _ hp)
noncomputable def Zl1 (ta td:TA) (tb:TE) (js:List (Option Nat)) (env:Env) (P:Addr) (q:Str) (params:Arguments) (body:Expr) (scope:Scope):TE:=fun σ H Q=>ta σ H λvs H1=>td σ H1 λzs H2=>∃(p f:Addr) (dv:V) (ns:List V) (kz:V->Int),
 vs=[.ref p]/\zs=[.ref f,dv]/\H2 p=some (.lst ns)/\ZkM env P q params body scope H2 f /\
 (∀n H3,n∈ns->Zg H2 H3->tb ((ZW js σ).set 0 (some n)) H3 λv H4=>v=.int (kz n)/\Zg H3 H4) /\
 (ns=[]->∀H3,Zg H2 H3->Q dv H3)/\∀i H3,i<ns.length->Zc5 kz ns ns.length i->Zg H2 H3->Q (ZaS ns i) H3
theorem ZpI {Nc:List Str}{js:List (Option Nat)}{q pn:Str}{params:Arguments}{body:Expr}{scope:Scope}{P:Addr}{ta td:TA}{tb:TE}{m:Nat}{e:Expr}{e2:Expr}{p pos lpos kp1 kp2:Pos} (hc:X.calm=true) (hr:Room m X.A) (S:LamSc X Nc js params body scope pn)
  (hbody:∀cl L f c s H,PE (Zji X X.A.in1 Nc q scope cl L f c s H) body tb) (hg:Gl X "max") (hm:X.mg "max"=none) (ha:PA X [e] ta) (hd:PK X [⟨some (Str.ofString "key"),.Lambda params body scope lpos,kp1⟩,⟨some (Str.ofString "default"),e2,kp2⟩] td)
  (hpl:(backTo pos (starEach [e] X.env)).any (·.1)=false:=by rfl) (hall:(backToKw pos (keywordEach [⟨some (Str.ofString "key"),.Lambda params body scope lpos,kp1⟩,⟨some (Str.ofString "default"),e2,kp2⟩] X.env)).all (·.1.isSome)=true:=by rfl)
  (hnn:(backToKw pos (keywordEach [⟨some (Str.ofString "key"),.Lambda params body scope lpos,kp1⟩,⟨some (Str.ofString "default"),e2,kp2⟩] X.env)).any (·.1.isNone)=false:=by rfl) (hks:(backToKw pos (keywordEach [⟨some (Str.ofString "key"),.Lambda params body scope lpos,kp1⟩,⟨some (Str.ofString "default"),e2,kp2⟩] X.env)).filterMap (·.1)=[Str.ofString "key",Str.ofString "default"]:=by rfl) (hb:backTo pos (starEach [e] X.env)=(false,eval e X.env)::backTo pos (starEach [] X.env):=by rfl) :
  PE X (.Call (.Name "max" p) [e] [⟨some (Str.ofString "key"),.Lambda params body scope lpos,kp1⟩,⟨some (Str.ofString "default"),e2,kp2⟩] pos) (Zl1 ta td tb js X.env P q params body scope):=by
 intro pins s σ H Q I h
 refine wpAny_Call_Name_kw (Zcw I hg hm ZhD ?_)
 refine PyProof.Rows.callWith_kw (thn (ha pos pins s σ H _ I h) λus s1 ⟨vs,H1,I1,r1,q1⟩=>?_) hb hpl hall hnn
 refine thn (hd pos pins s1 σ H1 _ I1 q1) λws s2 ⟨zs,H2,I2,r2,pp,f,dv,ns,kz,e1,e2,hp,L,tn,fin0,fin⟩=>?_
 subst e1 e2
 obtain⟨u,rfl,ru⟩:=r1.one
 cases(show u=Value.ref pp from ru)
 rw[hks]
 obtain⟨v,v2,rfl,rv,rv2⟩:=r2.two
 cases(show v=Value.ref f from rv)
 exact maxVD (kz:=kz) I2 hc hp rv2 (λH' s' pins' n u hn J sm r=>ZkN S hbody J J.ok.frames J.ok.hd hr.depth (L.same sm) r (tn n H' hn sm)) fin0 fin
end
end L2
namespace L2
open PySem PySem.Spec PyProof.Rows PySem.W PySem.Calls
end L2
namespace L2
open PySem PySem.Spec PyProof.Rows PySem.W
theorem le1 {n:Nat}{us:List Value} (e:us.length=n+1):∃a t,us=a::t/\t.length=n:=by
 cases us with
 |nil=>cases e
 |cons a t=>exact⟨a,t,rfl,Nat.succ.inj e⟩
theorem le0 {us:List Value} (e:us.length=0):us=[]:=List.length_eq_zero_iff.mp e
end L2
namespace L2
open PySem PySem.Spec PyProof.Rows PySem.W PyProof
theorem ZpJ {K:Frag}{n:String}{C:Addr}{b:Bool} (h1:hasDictIn K C=true) (h2:typeIn K (.ref C)=some (.type "type")) (h3:subIn K (.type n) (.ref C)=some b):kitOne K (.type n) (.ref C)=some b:=by
 obtain⟨cd,hc,_⟩:=any_some h1
 unfold kitOne
 rw[Yb (by intro z;exact nomatch (beq_iff_eq.mp z))]
 unfold kitCls
 dsimp only
 rw[Yd (by rw[hc,h2];rfl)]
 exact h3
end L2
namespace K59
open PySem PySem.Spec PyProof.Rows L2
open PySem.W (nsIn mg_of fnOf keepIn codeIn mg_none_of)
local macro_rules | `(tactic| walk_at "rd") => `(tactic| simp only [tIfS, tNot, Zkq, Zjv, rI0, rI, rU, Zlr, tC, tB, ZoE, tOrV, Zmt, ZjG, Zms, tNil, Zm1, tSeq, tRet, ZoF, tOp, tUn, tAnd, tOr, ZoG, Zfe, gSub, tAug, tCB, tSl, ZlA, tLst, tTup, L2.start, tYes, gTup, Zmn, gNil, ZW, Option.join_some, Option.join_none, rEq, rNe, ZmC, ZmD, ZmE, ZmF, ZmG, ZmH, tBM, Bool.true_eq_false, YO, List.map_nil, List.cons_append, List.nil_append, YM, List.length_nil, List.replicate, List.append_nil, List.set_cons_zero, List.set_cons_succ, List.getElem?_cons_zero, List.getElem?_cons_succ, Option.some.injEq, V.int.injEq, V.bl.injEq, V.ref.injEq, List.cons.injEq, and_true, true_and, exists_eq_left, exists_eq_left', exists_and_left, exists_eq, decide_eq_true_eq, Bool.not_eq_true', decide_eq_false_iff_not, cxK, and_assoc, Bool.false_eq_true, ↓reduceIte, ZmA, Zi9, ZkA, ZoH, ZoI, Zmo, Zku, Zm7, ZoR, rCat, rIsi, ZlB, Zpd, ZjP, ZlE, rLen, rLof, rTof, rEqD, Zo8, rIn, rSlQ, Zpm, rAll, rIxQ, tRev, rSlL, ZoP, Zjx, tSl, ipI, ZjC, rRep, ZmI, Zo4, Zpp, V.str.injEq, rSlV, Zps, tLam, ZjU, gLst, ZjV, Zjl, Zl1])
noncomputable def top (i:Nat):Stmt:=PySem.Challenge.pw_dipkin_k59_bounds_and_rows_refused.main.body.getD i (.Pass ⟨0,0,0,0⟩)
noncomputable abbrev Zc6:Stmt:=top 14
noncomputable abbrev ZbY:Stmt:=top 15
noncomputable abbrev Zc7:Stmt:=top 16
noncomputable abbrev ZbZ:Stmt:=top 17
noncomputable abbrev ZaV:Stmt:=top 18
noncomputable abbrev ZaB:Stmt:=top 19
noncomputable abbrev Zal:Stmt:=top 21
noncomputable abbrev Zbe:Stmt:=top 22
noncomputable abbrev ZaC:Stmt:=top 24
noncomputable abbrev Zc8:Stmt:=top 25
noncomputable abbrev Zc9:Stmt:=top 26
noncomputable abbrev Zb0:Stmt:=top 27
noncomputable abbrev Zab:Stmt:=top 28
noncomputable abbrev Zb1:Stmt:=top 30
noncomputable abbrev ZaD:Stmt:=top 31
noncomputable abbrev Z2:Stmt:=top 32
noncomputable abbrev Zda:Stmt:=top 34
noncomputable abbrev ZaE:Stmt:=top 35
noncomputable abbrev Zbf:Stmt:=top 36
noncomputable abbrev Zac:Stmt:=top 37
noncomputable abbrev ZaW:Stmt:=top 39
noncomputable abbrev ZaX:Stmt:=top 40
noncomputable abbrev Zbg:Stmt:=top 41
noncomputable abbrev ZaF:Stmt:=top 42
noncomputable abbrev ZaY:Stmt:=top 43
noncomputable abbrev ZaG:Stmt:=top 44
noncomputable abbrev Zam:Stmt:=top 45
noncomputable abbrev Zad:Stmt:=top 46
noncomputable abbrev ZaZ:Stmt:=top 47
noncomputable abbrev Z3:Stmt:=top 48
noncomputable abbrev ZaH:Stmt:=top 49
noncomputable abbrev Zbh:Stmt:=top 50
noncomputable abbrev Zge:Stmt:=top 51
structure Txt (K:PySem.W.Frag) (mg:Str->Option Value):Prop where
 b_ValueError:mg "ValueError"=none
 b_abs:mg "abs"=none
 b_all:mg "all"=none
 b_enumerate:mg "enumerate"=none
 b_isinstance:mg "isinstance"=none
 b_len:mg "len"=none
 b_list:mg "list"=none
 b_max:mg "max"=none
 b_min:mg "min"=none
 b_range:mg "range"=none
 b_sorted:mg "sorted"=none
 b_tuple:mg "tuple"=none
 b_zip:mg "zip"=none
 c_DipError:mg "DipError"=some (.ref (clsAt mg "DipError"))
 x_DipError:PySem.W.excIn K (clsAt mg "DipError") bmV newV=true
 c_Unlike:mg "Unlike"=some (.ref (clsAt mg "Unlike"))
 x_Unlike:PySem.W.excIn K (clsAt mg "Unlike") bmV newV=true
 c_Empty:mg "Empty"=some (.ref (clsAt mg "Empty"))
 x_Empty:PySem.W.excIn K (clsAt mg "Empty") bmV newV=true
 c_TooMany:mg "TooMany"=some (.ref (clsAt mg "TooMany"))
 x_TooMany:PySem.W.excIn K (clsAt mg "TooMany") bmV newV=true
 c_NoTree:mg "NoTree"=some (.ref (clsAt mg "NoTree"))
 x_NoTree:PySem.W.excIn K (clsAt mg "NoTree") bmV newV=true
 c_NoTelling:mg "NoTelling"=some (.ref (clsAt mg "NoTelling"))
 x_NoTelling:PySem.W.excIn K (clsAt mg "NoTelling") bmV newV=true
 c_NoPlace:mg "NoPlace"=some (.ref (clsAt mg "NoPlace"))
 x_NoPlace:PySem.W.excIn K (clsAt mg "NoPlace") bmV newV=true
 c_NoNumber:mg "NoNumber"=some (.ref (clsAt mg "NoNumber"))
 x_NoNumber:PySem.W.excIn K (clsAt mg "NoNumber") bmV newV=true
 c_NoPast:mg "NoPast"=some (.ref (clsAt mg "NoPast"))
 x_NoPast:PySem.W.excIn K (clsAt mg "NoPast") bmV newV=true
 c_NoText:mg "NoText"=some (.ref (clsAt mg "NoText"))
 x_NoText:PySem.W.excIn K (clsAt mg "NoText") bmV newV=true
 c_NoLine:mg "NoLine"=some (.ref (clsAt mg "NoLine"))
 x_NoLine:PySem.W.excIn K (clsAt mg "NoLine") bmV newV=true
 ex_NoTree:ExK K (clsAt mg "NoTree")
 up_NoTree:PySem.W.mroIn K (clsAt mg "NoTree") (.ref (clsAt mg "DipError"))=some true
 is_NoTree_DipError:PySem.W.kitOne K (.ref (clsAt mg "NoTree")) (.ref (clsAt mg "DipError"))=some true
 is_NoTree_Unlike:PySem.W.kitOne K (.ref (clsAt mg "NoTree")) (.ref (clsAt mg "Unlike"))=some false
 is_NoTree_Empty:PySem.W.kitOne K (.ref (clsAt mg "NoTree")) (.ref (clsAt mg "Empty"))=some false
 is_NoTree_TooMany:PySem.W.kitOne K (.ref (clsAt mg "NoTree")) (.ref (clsAt mg "TooMany"))=some false
 is_NoTree_NoTree:PySem.W.kitOne K (.ref (clsAt mg "NoTree")) (.ref (clsAt mg "NoTree"))=some true
 is_NoTree_NoTelling:PySem.W.kitOne K (.ref (clsAt mg "NoTree")) (.ref (clsAt mg "NoTelling"))=some false
 is_NoTree_NoPlace:PySem.W.kitOne K (.ref (clsAt mg "NoTree")) (.ref (clsAt mg "NoPlace"))=some false
 is_NoTree_NoNumber:PySem.W.kitOne K (.ref (clsAt mg "NoTree")) (.ref (clsAt mg "NoNumber"))=some false
 is_NoTree_NoPast:PySem.W.kitOne K (.ref (clsAt mg "NoTree")) (.ref (clsAt mg "NoPast"))=some false
 is_NoTree_NoText:PySem.W.kitOne K (.ref (clsAt mg "NoTree")) (.ref (clsAt mg "NoText"))=some false
 is_NoTree_NoLine:PySem.W.kitOne K (.ref (clsAt mg "NoTree")) (.ref (clsAt mg "NoLine"))=some false
 is_NoTree_V:PySem.W.kitOne K (.ref (clsAt mg "NoTree")) (.type "ValueError")=some true
 ex_Unlike:ExK K (clsAt mg "Unlike")
 up_Unlike:PySem.W.mroIn K (clsAt mg "Unlike") (.ref (clsAt mg "DipError"))=some true
 is_Unlike_DipError:PySem.W.kitOne K (.ref (clsAt mg "Unlike")) (.ref (clsAt mg "DipError"))=some true
 is_Unlike_Unlike:PySem.W.kitOne K (.ref (clsAt mg "Unlike")) (.ref (clsAt mg "Unlike"))=some true
 is_Unlike_Empty:PySem.W.kitOne K (.ref (clsAt mg "Unlike")) (.ref (clsAt mg "Empty"))=some false
 is_Unlike_TooMany:PySem.W.kitOne K (.ref (clsAt mg "Unlike")) (.ref (clsAt mg "TooMany"))=some false
 is_Unlike_NoTree:PySem.W.kitOne K (.ref (clsAt mg "Unlike")) (.ref (clsAt mg "NoTree"))=some false
 is_Unlike_NoTelling:PySem.W.kitOne K (.ref (clsAt mg "Unlike")) (.ref (clsAt mg "NoTelling"))=some false
 is_Unlike_NoPlace:PySem.W.kitOne K (.ref (clsAt mg "Unlike")) (.ref (clsAt mg "NoPlace"))=some false
 is_Unlike_NoNumber:PySem.W.kitOne K (.ref (clsAt mg "Unlike")) (.ref (clsAt mg "NoNumber"))=some false
 is_Unlike_NoPast:PySem.W.kitOne K (.ref (clsAt mg "Unlike")) (.ref (clsAt mg "NoPast"))=some false
 is_Unlike_NoText:PySem.W.kitOne K (.ref (clsAt mg "Unlike")) (.ref (clsAt mg "NoText"))=some false
 is_Unlike_NoLine:PySem.W.kitOne K (.ref (clsAt mg "Unlike")) (.ref (clsAt mg "NoLine"))=some false
 is_Unlike_V:PySem.W.kitOne K (.ref (clsAt mg "Unlike")) (.type "ValueError")=some true
 ty_tuple:PySem.W.kitOne K (.type "tuple") (.ref (clsAt mg "DipError"))=some false
 ty_bool:PySem.W.kitOne K (.type "bool") (.ref (clsAt mg "DipError"))=some false
 m_MOST_PLACES:mg "MOST_PLACES"=some (.int 40 (tokAt mg "MOST_PLACES"))
noncomputable def Zfh (K:PySem.W.Frag) (mg:Str->Option Value):List (Addr×Str):=[(ZhL K mg "from_below",ZkQ "from_below"),(ZhL K mg "nearest",ZkQ "nearest")]
noncomputable abbrev SpT:=PySem.W.Frag->(Str->Option Value)->Sp
noncomputable def ZmX (K:PySem.W.Frag) (mg:Str->Option Value):Sp:=λvs H Q E=>∃(a:Addr) (ns:List Int),vs=[.ref a]/\SqL K H a (ns.map V.int)/\ns.length<=63/\(∀p∈Zfh K mg,H p.1=some (ZhM p.2))/\∀H',Q (.bl true) H'
noncomputable def Zdr:SpT:=λK mg vs H Q E=>∃(a:Addr) (ns:List Int) (k:Int),vs=[.ref a,.int k]/\SqL K H a (ns.map V.int)/\0<=k/\k<=100/\∀p H',H p=none->Zg H H'->ZD H' p->Q (.ref p) H'
noncomputable def Zag:SpT:=λK mg vs H Q E=>∃(p:Addr) (many:Int),vs=[.ref p,.int many]/\0<many/\many<=1000000001/\ZD H p/\∀d H',0<=d->d<many->ZD H' p->Exc p H H'->Q (.int d) H'
noncomputable def Zew:SpT:=λK mg vs H Q E=>∃(p:Addr) (most:Int),vs=[.ref p,.int most]/\0<=most/\most<=1000/\ZD H p/\∀(r:Addr) (ns:List Int) H',H r=none->(ns.length:Int)<=most->H' r=some (.lst (ns.map V.int))->ZD H' p->Exc p H H'->Q (.ref r) H'
noncomputable def Zcz:SpT:=λK mg vs H Q E=>∃(r:Addr) (ns:List Int) (i:Nat),vs=[.ref r,.int (i:Int)]/\(SqL K H r (ns.map V.int)\/SqT K H r (ns.map V.int))/\ns.length<=1000/\i<ns.length/\∀(e:Int) H',ZJ (nth ns) ns.length i e->Zg H H'->Q (.int e) H'
noncomputable def ZbM:SpT:=λK mg vs H Q E=>∃(r:Addr) (ns:List Int),vs=[.ref r]/\(SqL K H r (ns.map V.int)\/SqT K H r (ns.map V.int))/\ns.length<=1000/\∀(t:Addr) (es:List Int) H',ZQ ns es->Zg H H'->H' t=some (.tup (es.map V.int))->Q (.ref t) H'
noncomputable def ZgG:SpT:=λK mg vs H Q E=>∃(el sp:Addr) (es:List Int) (A B:List Nat) (i:Nat),vs=[.ref el,.ref sp,.int i,.int A.length]/\H el=some (.lst (es.map V.int))/\H sp=some (.lst (ZC (A++B)))/\el≠sp/\i<es.length/\(∀q∈A++B,q<es.length)/\(A++B).length<=1000 /\
 ∀H',(∀b o,b≠el->b≠sp->H b=some o->H' b=some o)->H' el=some (.lst ((Zhk es A B i).map V.int))->H' sp=some (.lst (ZC (A++[i])))->Q .non H'
noncomputable def Zds:SpT:=λK mg vs H Q E=>∃(r:Addr) (ns:List Int),vs=[.ref r]/\(SqL K H r (ns.map V.int)\/SqT K H r (ns.map V.int))/\ns.length<=1000/\∀(t:Addr) (es:List Int) H',ZQ ns es->Zg H H'->H' t=some (.tup (es.map V.int))->Q (.ref t) H'
noncomputable def Za0:SpT:=λK mg vs H Q E=>∃(t:Addr) (T:List Int) (p:Nat),vs=[.ref t,.int p]/\(SqL K H t (T.map V.int)\/SqT K H t (T.map V.int))/\T.length<=1000/\p<T.length/\∀(w:Addr) H',H w=none->Zg H H'->H' w=some (.lst ((Zar T p).map V.int))->Q (.ref w) H'
noncomputable def Zfu:SpT:=λK mg vs H Q E=>∃(t:Addr) (T:List Int),vs=[.ref t]/\H t=some (.tup (T.map V.int))/\T.length<=1000/\(ZI T->∀H',Zg H H'->Q (.bl true) H')/\(¬ ZI T->∀H',Zg H H'->Q (.bl false) H')
noncomputable def Zdt:SpT:=λK mg vs H Q E=>∃(t:Addr) (T:List Int),vs=[.ref t]/\H t=some (.tup (T.map V.int))/\T.length<=1000/\(ZI T->∀H',Zg H H'->Q .non H')/\(¬ ZI T->∀H',Zg H H'->E (.ref (clsAt mg "NoTree")) none H')
noncomputable def Zb9:SpT:=λK mg vs H Q E=>∃(t:Addr) (T:List Int) (p:Nat),vs=[.ref t,.int p]/\H t=some (.tup (T.map V.int))/\T.length<=1000/\p<T.length/\∀H',Zg H H'->Q (.int (Za8 T p:Nat)) H'
noncomputable def Za1:SpT:=λK mg vs H Q E=>∃(t:Addr) (T:List Int),vs=[.ref t]/\H t=some (.tup (T.map V.int))/\T.length<=1000/\(ZI T->∀(t':Addr) H',Zg H H'->H' t'=some (.tup ((Zl T).map V.int))->Q (.ref t') H')/\(¬ ZI T->∀H',Zg H H'->E (.ref (clsAt mg "NoTree")) none H')
noncomputable def Zca:SpT:=λK mg vs H Q E=>∃(p r:Addr) (ns:List Int),vs=[.ref p,.ref r]/\ZD H p/\r≠p/\H r=some (.lst (ns.map V.int))/\ns.length<=1000/\∀(u:Addr) H',H u=none->(H' u=some (.lst (ns.map V.int))\/H' u=some (.tup (ns.map V.int)))->ZD H' p->Exc p H H'->Q (.ref u) H'
noncomputable def hgt (F ns:List Int):List Int:=(List.range F.length).map λi=>nth ns i-nth F i
noncomputable def Zan:SpT:=λK mg vs H Q E=>∃(f r:Addr) (F ns:List Int),vs=[.ref f,.ref r]/\H f=some (.tup (F.map V.int))/\(SqL K H r (ns.map V.int)\/SqT K H r (ns.map V.int))/\F.length<=1000/\ns.length<=1000/\(ns.length=F.length->∀(l:Addr) H',H l=none->Zg H H'->H' l=some (.lst ((hgt F ns).map V.int))->Q (.ref l) H')/\(ns.length≠F.length->∀H',Zg H H'->E (.ref (clsAt mg "Unlike")) none H')
noncomputable def Zdu:SpT:=λK mg vs H Q E=>∃(t:Addr) (T:List Int) (a b:Int),vs=[.ref t,.int a,.int b]/\H t=some (.tup (T.map V.int))/\T.length<=1000/\∀H',Zg H H'->Q (.bl (decide (0<=b/\b<T.length/\a∈Zar T b.toNat))) H'
noncomputable def ZpK (T fl rf hs:List Int) (p:Nat):Prop:=nth hs p=(if nth T p=-1 then nth fl p else max (nth fl p) (nth hs (nth T p).toNat))/\nth hs p<=nth rf p
noncomputable instance (T fl rf hs:List Int) (p:Nat):Decidable (ZpK T fl rf hs p):=by unfold ZpK;exact inferInstance
noncomputable def ZhR (T fl rf:List Int) (a b:Int):Prop:=(0<=b/\b<T.length/\a∈Zar T b.toNat\/a=b/\0<=a/\a<T.length)/\nth rf b.toNat<nth fl a.toNat
noncomputable instance (T fl rf:List Int) (a b:Int):Decidable (ZhR T fl rf a b):=by unfold ZhR;exact inferInstance
noncomputable def Zex:SpT:=λK mg vs H Q E=>∃(t c d:Addr) (T fl rf:List Int) (a b:Int),vs=[.ref t,.ref c,.ref d,.int a,.int b]/\H t=some (.tup (T.map V.int))/\H c=some (.lst (fl.map V.int))/\H d=some (.lst (rf.map V.int))/\ZI T/\fl.length=T.length/\rf.length=T.length/\∀H',Zg H H'->Q (.bl (decide (ZhR T fl rf a b))) H'
inductive Td where
 |row (ns:List Int)
 |clash (a b:Int)
noncomputable def ToldAt (H:Hp) (t:Addr):Td->Prop
 |.row ns=>ns.length<=1000/\∃r:Addr,H t=some (.tup [.str (Str.ofString "row"),.ref r])/\H r=some (.tup (ns.map V.int))
 |.clash a b=>H t=some (.tup [.str (Str.ofString "clash"),.int a,.int b])
noncomputable def ZpL (T ls gs:List Int):Td->Prop
 |.row ns=>ns.length=T.length/\∀p,p<T.length->ZpK T (hgt (Zl T) ls) (hgt (Zl T) gs) (hgt (Zl T) ns) p
 |.clash a b=>ZhR T (hgt (Zl T) ls) (hgt (Zl T) gs) a b
noncomputable instance (T ls gs:List Int) (d:Td):Decidable (ZpL T ls gs d):=by cases d<;>(unfold ZpL;exact inferInstance)
noncomputable def ZmY (T ls ds:List Int):Prop:=ds.length=T.length/\∀p,p<T.length->(∃o∈p::way T p,nth ds p=nth ls o+nth (Zl T) p-nth (Zl T) o)/\∀o∈p::way T p,nth ls o+nth (Zl T) p-nth (Zl T) o<=nth ds p
noncomputable def Zl2 (T ls gs:List Int) (a b:Int):Prop:=0<=a/\0<=b/\a<T.length/\b<T.length/\(a=b\/a∈Zar T b.toNat)/\nth gs b.toNat<nth ls a.toNat+nth (Zl T) b.toNat-nth (Zl T) a.toNat
noncomputable def dpI (T:List Int) (i:Int):Int:=((Zar T i.toNat).length:Int)
noncomputable def ZcA:SpT:=λK mg vs H Q E=>∃(t:Addr) (T:List Int),vs=[.ref t]/\H t=some (.tup (T.map V.int))/\ZI T/\Zee K mg "from_below" H/\∀(l:Addr) (ps:List Int) H',H l=none->Zg H H'->ps.Perm (nats (T.length:Int))->(ps.Pairwise λx y=>dpI T y<=dpI T x)->H' l=some (.lst (ps.map V.int))->Q (.ref l) H'
noncomputable def ZgH (F us:List Int):List Int:=(List.range F.length).map λi=>nth F i+nth us i
noncomputable def Ze4:SpT:=λK mg vs H Q E=>∃(f h:Addr) (F us:List Int),vs=[.ref f,.ref h]/\H f=some (.tup (F.map V.int))/\H h=some (.lst (us.map V.int))/\F.length=us.length/\us.length<=1000/\∀(t:Addr) H',Zg H H'->H' t=some (.tup ((ZgH F us).map V.int))->Q (.ref t) H'
noncomputable def Zl3 (T hs us:List Int):Prop:=us.length=T.length/\∀p,p<T.length->nth us p=if nth T p=-1 then nth hs p else max (nth hs p) (nth us (nth T p).toNat)
noncomputable def Ze5:SpT:=λK mg vs H Q E=>∃(t h:Addr) (T hs:List Int),vs=[.ref t,.ref h]/\H t=some (.tup (T.map V.int))/\H h=some (.lst (hs.map V.int))/\ZI T/\hs.length=T.length/\Zee K mg "from_below" H/\∀(l:Addr) (us:List Int) H',H l=none->Zg H H'->Zl3 T hs us->H' l=some (.lst (us.map V.int))->Q (.ref l) H'
noncomputable def FirstC (T ls gs ds:List Int) (i j:Nat):Prop:=i<T.length/\(∀p,p<i->nth ds p<=nth gs p)/\¬ nth ds i<=nth gs i/\j<(i::way T i).length/\nth (hgt (Zl T) ls) ((i::way T i).getD j 0)=nth ds i-nth (Zl T) i/\∀j',j'<j->nth (hgt (Zl T) ls) ((i::way T i).getD j' 0)≠nth ds i-nth (Zl T) i
noncomputable def FitIs (T ls gs:List Int):Td->Prop
 |.row ds=>ZmY T ls ds/\∀p,p<T.length->nth ds p<=nth gs p
 |.clash a b=>Zl2 T ls gs a b/\∃(ds:List Int) (i j:Nat),ZmY T ls ds/\FirstC T ls gs ds i j/\a=((i::way T i).getD j 0:Nat)/\b=(i:Int)
noncomputable def ZhS (H:Hp) (v:V):Option (Int×Int)->Prop
 |none=>v=.non
 |some z=>∃a:Addr,v=.ref a/\H a=some (.tup [.int z.1,.int z.2])
noncomputable def overN (T:List Int) (a b:Int):Prop:=0<=b/\b<T.length/\a∈Zar T b.toNat
noncomputable def ZjZ (T hs:List Int):List (List Int):=(List.range T.length).flatMap λb=>((Zar T b).filter λa=>decide (nth hs b<nth hs a.toNat)).map λa=>[a,(b:Int)]
noncomputable def SortP (rs' rs:List (List Int)):Prop:=rs'.Perm rs/\rs'.Pairwise (λr r'=>Zeu r<=Zeu r')
noncomputable def ZbB:SpT:=λK mg vs H Q E=>∃(t h:Addr) (T hs:List Int),vs=[.ref t,.ref h]/\H t=some (.tup (T.map V.int))/\H h=some (.lst (hs.map V.int))/\T.length<=40/\hs.length=T.length/\∀(l:Addr) (rs:List (List Int)) H',H l=none->Zg H H'->ZjS H' l rs->SortP rs (ZjZ T hs)->Q (.ref l) H'
noncomputable def dfK (hs:List Int) (r:List Int):Int:=nth hs (r.getD 0 0).toNat-nth hs (r.getD 1 0).toNat
noncomputable def IsPair (T hs:List Int):Option (Int×Int)->Prop
 |none=>ZjZ T hs=[]
 |some z=>∃(rs:List (List Int)) (i:Nat),SortP rs (ZjZ T hs)/\i<rs.length/\rs.getD i []=[z.1,z.2]/\∀j,j<rs.length->dfK hs (rs.getD j [])<=dfK hs (rs.getD i [])/\(j<i->dfK hs (rs.getD j [])<dfK hs (rs.getD i []))
noncomputable def ZkV (hs:List Int):Option (Int×Int)->Int
 |none=>0
 |some z=>(nth hs z.1.toNat-nth hs z.2.toNat+1) / 2
noncomputable def ZcB:SpT:=λK mg vs H Q E=>False
noncomputable def ZcC:SpT:=λK mg vs H Q E=>∃(t h:Addr),vs=[.ref t,.ref h,.int 0,.non]/\∀z:Bool,Q (.bl z) H
noncomputable def ZgI:SpT:=λK mg vs H Q E=>∃(t a b:Addr) (T ls gs:List Int),vs=[.ref t,.ref a,.ref b]/\H t=some (.tup (T.map V.int))/\(SqL K H a (ls.map V.int)\/SqT K H a (ls.map V.int))/\(SqL K H b (gs.map V.int)\/SqT K H b (gs.map V.int))/\Zee K mg "from_below" H/\T.length<=1000/\ls.length<=1000/\gs.length<=1000/\(ZI T->(ls.length=T.length/\gs.length=T.length)->∀(c:Addr) (xs:List V) H',Zg H H'->H' c=some (.tup xs)->Q (.ref c) H')/\(¬ ZI T->∀H',Zg H H'->E (.ref (clsAt mg "NoTree")) none H')/\(ZI T->¬ (ls.length=T.length/\gs.length=T.length)->∀H',Zg H H'->E (.ref (clsAt mg "Unlike")) none H')
noncomputable def ZbC:SpT:=λK mg vs H Q E=>∃(t a b c:Addr) (T ls gs:List Int),vs=[.ref t,.ref a,.ref b,.ref c]/\H t=some (.tup (T.map V.int))/\(SqL K H a (ls.map V.int)\/SqT K H a (ls.map V.int))/\(SqL K H b (gs.map V.int)\/SqT K H b (gs.map V.int))/\H c=some (.tup [.str (Str.ofString "clash"),.int 0,.int 0])/\T.length<=1000/\ls.length<=1000/\gs.length<=1000/\(ZI T->(ls.length=T.length/\gs.length=T.length)->∀(z:Bool) H',Zg H H'->Q (.bl z) H')/\(¬ ZI T->∀H',Zg H H'->E (.ref (clsAt mg "NoTree")) none H')/\(ZI T->¬ (ls.length=T.length/\gs.length=T.length)->∀H',Zg H H'->E (.ref (clsAt mg "Unlike")) none H')
noncomputable def Zfv:SpT:=λK mg vs H Q E=>∃(t r:Addr) (T ns:List Int),vs=[.ref t,.ref r]/\H t=some (.tup (T.map V.int))/\(SqL K H r (ns.map V.int)\/SqT K H r (ns.map V.int))/\Zee K mg "nearest" H/\Zee K mg "from_below" H/\T.length<=1000/\ns.length<=1000/\(ZI T->ns.length=T.length->∀(c:Addr) (xs:List V) H',Zg H H'->H' c=some (.tup xs)->Q (.ref c) H')/\(¬ ZI T->∀H',Zg H H'->E (.ref (clsAt mg "NoTree")) none H')/\(ZI T->¬ ns.length=T.length->∀H',Zg H H'->E (.ref (clsAt mg "Unlike")) none H')
noncomputable def Zbi:SpT:=λK mg vs H Q E=>∃(t r m:Addr) (T ns ms:List Int),vs=[.ref t,.ref r,.int 0,.ref m,.non]/\H t=some (.tup (T.map V.int))/\(SqL K H r (ns.map V.int)\/SqT K H r (ns.map V.int))/\(SqL K H m (ms.map V.int)\/SqT K H m (ms.map V.int))/\T.length<=1000/\ns.length<=1000/\ms.length<=1000/\(ZI T->ns.length=T.length->∀(z:Bool) H',Zg H H'->Q (.bl z) H')/\(¬ ZI T->∀H',Zg H H'->E (.ref (clsAt mg "NoTree")) none H')/\(ZI T->¬ ns.length=T.length->∀H',Zg H H'->E (.ref (clsAt mg "Unlike")) none H')
noncomputable def ZcD:SpT:=λK mg vs H Q E=>∃(e C:Addr) (i j:Nat),vs=[.ref e,.int (i:Int)]/\i<10/\j<10/\H e=some (ZiB e C)/\KindsOf K mg C (λk=>decide (k=j))/\∀H',Zg H H'->Q (.bl (decide (i=j))) H'
theorem Zj0 {K:PySem.W.Frag}{mg:Str->Option Value} (T:Txt K mg):KindsOf K mg (clsAt mg "Unlike") (λk=>decide (k=0)):=⟨T.ex_Unlike,T.is_Unlike_Unlike,T.is_Unlike_Empty,T.is_Unlike_TooMany,T.is_Unlike_NoTree,T.is_Unlike_NoTelling,T.is_Unlike_NoPlace,T.is_Unlike_NoNumber,T.is_Unlike_NoPast,T.is_Unlike_NoText,T.is_Unlike_NoLine,T.is_Unlike_DipError,T.is_Unlike_V⟩
theorem Zj1 {K:PySem.W.Frag}{mg:Str->Option Value} (T:Txt K mg):KindsOf K mg (clsAt mg "NoTree") (λk=>decide (k=3)):=⟨T.ex_NoTree,T.is_NoTree_Unlike,T.is_NoTree_Empty,T.is_NoTree_TooMany,T.is_NoTree_NoTree,T.is_NoTree_NoTelling,T.is_NoTree_NoPlace,T.is_NoTree_NoNumber,T.is_NoTree_NoPast,T.is_NoTree_NoText,T.is_NoTree_NoLine,T.is_NoTree_DipError,T.is_NoTree_V⟩
noncomputable def ZbD:SpT:=λK mg vs H Q E=>∃(t:Addr) (T:List Int),vs=[.ref t]/\H t=some (.tup (T.map V.int))/\T.length<=1000/\∀(b:Bool) H',Zg H H'->(b=true↔ZI T)->Q (.bl b) H'
noncomputable def Zdv:SpT:=λK mg vs H Q E=>∃(p t:Addr) (T:List Int),vs=[.ref p,.ref t]/\ZD H p/\H t=some (.tup (T.map V.int))/\T.length<=900/\∀(t':Addr) (T':List Int) H',H' t'=some (.lst (T'.map V.int))->T'.length<=T.length+1->ZD H' p->Exc p H H'->Q (.ref t') H'
noncomputable def Zbj:SpT:=λK mg vs H Q E=>∃(p:Addr),vs=[.ref p]/\ZD H p/\∀(t':Addr) (T':List Int) H',H' t'=some (.tup (T'.map V.int))->T'.length<=41->ZD H' p->Exc p H H'->Q (.ref t') H'
noncomputable def Zl4 (w:Int) (T ns os:List Int):Prop:=¬ (ns.length=T.length/\(w<2->os.length=T.length))
noncomputable def ZcE:SpT:=λK mg vs H Q E=>∃(w:Int) (t r o:Addr) (T ns os:List Int),vs=[.int w,.ref t,.ref r,.ref o]/\0<=w/\w<4/\H t=some (.tup (T.map V.int))/\(SqL K H r (ns.map V.int)\/SqT K H r (ns.map V.int))/\(SqL K H o (os.map V.int)\/SqT K H o (os.map V.int))/\Zee K mg "nearest" H/\Zee K mg "from_below" H/\T.length<=1000/\ns.length<=1000/\os.length<=1000 /\
 (ZI T->¬ Zl4 w T ns os->∀(v:V) H',Zg H H'->((∃(c:Addr) (xs:List V),v=.ref c/\H' c=some (.tup xs))\/∃b,v=.bl b)->Q v H')/\(¬ ZI T->∀(e:Addr) H',Zg H H'->H' e=some (ZiB e (clsAt mg "NoTree"))->Q (.ref e) H')/\(ZI T->Zl4 w T ns os->∀(e:Addr) H',Zg H H'->H' e=some (ZiB e (clsAt mg "Unlike"))->Q (.ref e) H')
noncomputable def Zey:SpT:=λK mg vs H Q E=>∃(w:Int) (t r o:Addr) (T ns os:List Int),vs=[.int w,.ref t,.ref r,.ref o]/\H t=some (.tup (T.map V.int))/\H r=some (.lst (ns.map V.int))/\H o=some (.lst (os.map V.int))/\T.length<=1000/\ns.length<=1000/\os.length<=1000/\(ZI T->¬ Zl4 w T ns os->∀H',Zg H H'->Q (.int (-1)) H')/\(¬ ZI T->∀H',Zg H H'->Q (.int 3) H')/\(ZI T->Zl4 w T ns os->∀H',Zg H H'->Q (.int 0) H')
section
variable {P:Program}{w:World}{K:PySem.W.Frag}{mg:Str->Option Value}{base:Heap}
theorem ZnE:FnScope ["elders","spine","place","keep"] ["elders","spine","place","keep"] (defScope Zc6):=⟨rfl,rfl,rfl,by decide +kernel,rfl,by decide +kernel,by decide +kernel⟩
theorem Zbk:FnScope ["row","elders","spine","place","keep"] ["row"] (defScope ZbY):=⟨rfl,rfl,rfl,by decide +kernel,rfl,by decide +kernel,by decide +kernel⟩
theorem Ze6:FnScope ["tree","place","way","at"] ["tree","place"] (defScope Zc7):=⟨rfl,rfl,rfl,by decide +kernel,rfl,by decide +kernel,by decide +kernel⟩
theorem ZhT:FnScope ["tree","depths"] ["tree"] (defScope ZbZ):=⟨rfl,rfl,rfl,by decide +kernel,rfl,by decide +kernel,by decide +kernel⟩
theorem Zj2:FnScope ["tree"] ["tree"] (defScope ZaV):=⟨rfl,rfl,rfl,by decide +kernel,rfl,by decide +kernel,by decide +kernel⟩
theorem ZiI:FnScope ["tree"] ["tree"] (defScope ZaB):=⟨rfl,rfl,rfl,by decide +kernel,rfl,by decide +kernel,by decide +kernel⟩
theorem ZhU:FnScope ["tree","place"] ["tree","place"] (defScope Zal):=⟨rfl,rfl,rfl,by decide +kernel,rfl,by decide +kernel,by decide +kernel⟩
theorem ZkW:FnScope ["tree"] ["tree"] (defScope Zbe):=⟨rfl,rfl,rfl,by decide +kernel,rfl,by decide +kernel,by decide +kernel⟩
theorem ZiJ:FnScope ["flat","row"] ["flat","row"] (defScope ZaC):=⟨rfl,rfl,rfl,by decide +kernel,rfl,by decide +kernel,by decide +kernel⟩
theorem ZnF:FnScope ["flat","heights"] ["flat","heights"] (defScope Zc8):=⟨rfl,rfl,rfl,by decide +kernel,rfl,by decide +kernel,by decide +kernel⟩
theorem ZgJ:FnScope ["tree","heights","up","place"] ["tree","heights"] (defScope Zc9):=⟨rfl,rfl,rfl,by decide +kernel,rfl,by decide +kernel,by decide +kernel⟩
theorem Zl5:FnScope ["tree","a","b"] ["tree","a","b"] (defScope Zb0):=⟨rfl,rfl,rfl,by decide +kernel,rfl,by decide +kernel,by decide +kernel⟩
theorem Zd8:FnScope ["tree","heights","pairs"] ["tree","heights"] (defScope Zab):=⟨rfl,rfl,rfl,by decide +kernel,rfl,by decide +kernel,by decide +kernel⟩
theorem Zah:FnScope ["tree","row","flat","heights","pair","far","a","b","made"] ["tree","row"] (defScope Zb1):=⟨rfl,rfl,rfl,by decide +kernel,rfl,by decide +kernel,by decide +kernel⟩
theorem ZcF:FnScope ["tree","heights","far","pair","a","b"] ["tree","heights","far","pair"] (defScope ZaD):=⟨rfl,rfl,rfl,by decide +kernel,rfl,by decide +kernel,by decide +kernel⟩
theorem Zbl:FnScope ["tree","row","far","made","pair","heights","near"] ["tree","row","far","made","pair"] (defScope Z2):=⟨rfl,rfl,rfl,by decide +kernel,rfl,by decide +kernel,by decide +kernel⟩
theorem Za2:FnScope ["tree","least","greatest","flat","floors","roofs","needed","b","height","lifting"] ["tree","least","greatest"] (defScope Zda):=⟨rfl,rfl,rfl,by decide +kernel,rfl,by decide +kernel,by decide +kernel⟩
theorem ZiK:FnScope ["tree","floors","roofs","heights","place","height","elder","needed"] ["tree","floors","roofs","heights"] (defScope ZaE):=⟨rfl,rfl,rfl,by decide +kernel,rfl,by decide +kernel,by decide +kernel⟩
theorem Zg7:FnScope ["tree","floors","roofs","a","b","there"] ["tree","floors","roofs","a","b"] (defScope Zbf):=⟨rfl,rfl,rfl,by decide +kernel,rfl,by decide +kernel,by decide +kernel⟩
theorem ZaP:FnScope ["tree","least","greatest","told","flat","floors","roofs"] ["tree","least","greatest","told"] (defScope Zac):=⟨rfl,rfl,rfl,by decide +kernel,rfl,by decide +kernel,by decide +kernel⟩
theorem Z6:FnScope ["script","k","cell","seed","number","turn"] ["script","k"] (defScope ZaW):=⟨rfl,rfl,rfl,by decide +kernel,rfl,by decide +kernel,by decide +kernel⟩
theorem Zgf:FnScope ["pot","many","digit"] ["pot","many"] (defScope ZaX):=⟨rfl,rfl,rfl,by decide +kernel,rfl,by decide +kernel,by decide +kernel⟩
theorem Zaw:FnScope ["pot","most","many","kind","turn","row","k"] ["pot","most"] (defScope Zbg):=⟨rfl,rfl,rfl,by decide +kernel,rfl,by decide +kernel,by decide +kernel⟩
theorem ZcG:FnScope ["row","place","earlier","later"] ["row","place"] (defScope ZaF):=⟨rfl,rfl,rfl,by decide +kernel,rfl,by decide +kernel,by decide +kernel⟩
theorem Zj3:FnScope ["row"] ["row"] (defScope ZaY):=⟨rfl,rfl,rfl,by decide +kernel,rfl,by decide +kernel,by decide +kernel⟩
theorem Zfi:FnScope ["e","place","some"] ["e","place"] (defScope ZaG):=⟨rfl,rfl,rfl,by decide +kernel,rfl,by decide +kernel,by decide +kernel⟩
theorem ZhV:FnScope ["pot","some"] ["pot","some"] (defScope Zam):=⟨rfl,rfl,rfl,by decide +kernel,rfl,by decide +kernel,by decide +kernel⟩
theorem Z4:FnScope ["tree","flat","place","here","way"] ["tree"] (defScope Zad):=⟨rfl,rfl,rfl,by decide +kernel,rfl,by decide +kernel,by decide +kernel⟩
theorem Za9:FnScope ["pot","tree","bent","way","at","spot"] ["pot","tree"] (defScope ZaZ):=⟨rfl,rfl,rfl,by decide +kernel,rfl,by decide +kernel,by decide +kernel⟩
theorem Zae:FnScope ["pot","way","tree","turn"] ["pot"] (defScope Z3):=⟨rfl,rfl,rfl,by decide +kernel,rfl,by decide +kernel,by decide +kernel⟩
theorem Z0:FnScope ["which","tree","row","other","told","e"] ["which","tree","row","other"] (defScope ZaH):=⟨rfl,rfl,rfl,by decide +kernel,rfl,by decide +kernel,by decide +kernel⟩
theorem ZkX:FnScope ["which","tree","row","other"] ["which","tree","row","other"] (defScope Zbh):=⟨rfl,rfl,rfl,by decide +kernel,rfl,by decide +kernel,by decide +kernel⟩
theorem ZcH:FnScope ["script","k","pot","tree","sizes","row","other","which","told","due"] ["script"] (defScope Zge):=⟨rfl,rfl,rfl,by decide +kernel,rfl,by decide +kernel,by decide +kernel⟩
theorem Zj4 {f:Addr}{fd:FuncData} (F:Fun K "_law_deal" "_law_deal" ZaW f fd) (T:Txt K mg):FnOk P w K mg base (CXE P w) 1 f fd ["script","k"] (Zdr K mg):=by
 refine F.okX Z6 (λvs H Q E h=>?_) (λcdv A outer s H vs Q E hr h=>?_)
 ·obtain⟨a,ns,k,rfl,_⟩:=h;rfl
 obtain⟨a,ns,k,rfl,hS,h0,h1,k1⟩:=h
 refine⟨_,(Zd (Zp (i:=2) Z6.nd rfl (Or.inl rfl) Ze)
   (Zd (ZO (Zn Zeo (pv 1) (Zh (Zk (K:=K) rfl) rfl T.b_len Yq (Za (pv 0) Zb)) (Zo _)) (Zf (Zp (i:=2) Z6.nd rfl (Or.inl rfl) (Zs Zem (Zw Zz (pv 0) (pv 1) (λ_ _=>rfl)) (Zs Zbn (Zs Zbn (Zs Zbn (Zs Zen Ze Ze) (Zs Zen Ze Ze)) (Zs Zen Ze Ze)) (Zs Zen Ze Ze))))) ZE)
   (Zd (ZO (Zn ZoK (pv 2) (Zs Zen Ze Ze) (Zo _)) (Zf (Zt (ZaJ (Za (Zs Zat (pv 2) (Zs Zen Ze Ze)) Zb)))) ZE)
   (Zd (Zp (i:=3) Z6.nd rfl (Or.inl rfl) (Zs Za4 (Zs Za4 (Zs Zem (pv 2) Ze) (Zs Zbn Ze (pv 1))) Ze))
   (Zd (Zp (i:=4) Z6.nd rfl (Or.inl rfl) Ze)
   (Zd (Zbz (Zdi PassesOwn.never rfl (ZL rfl T.b_range (Za Ze Zb)) (Zr (i:=5) Z6.nd rfl (Or.inl rfl)) (Zd (Zp (i:=3) Z6.nd rfl (Or.inl rfl) (Zs Zem (Zs Za4 (Zs Zbn (pv 3) Ze) Ze) Ze))
   (Zf (Zp (i:=4) Z6.nd rfl (Or.inl rfl) (Zs Za4 (Zs Zbn (pv 4) Ze) (Zs Zem (Zs Zgb (Zs Zem (Zs Zbn (pv 3) (pv 3)) Ze) Ze) Ze)))))))
   (Zf (Zt (ZaJ (Za (pv 4) Zb)))))))))),?_⟩
 simp only[tIfS,tNot,Zkq,Zjv,rI0,rI,rU,Zlr,tC,tB,ZoE,tOrV,Zmt,ZjG,Zms,tNil,Zm1,tSeq,tRet,ZoF,tOp,tUn,tAnd,tOr,ZoG,Zfe,gSub,tAug,tCB,tSl,ZlA,tLst,tTup,L2.start,tYes,gTup,Zmn,gNil,ZW,Option.join_some,Option.join_none,rEq,rNe,ZmC,ZmD,ZmE,ZmF,ZmG,ZmH,tBM,Bool.true_eq_false,YO,List.map_nil,List.cons_append,List.nil_append,YM,List.length_nil,List.replicate,List.append_nil,List.set_cons_zero,List.set_cons_succ,List.getElem?_cons_zero,List.getElem?_cons_succ,Option.some.injEq,V.int.injEq,V.bl.injEq,V.ref.injEq,List.cons.injEq,and_true,true_and,exists_eq_left,exists_eq_left',exists_and_left,exists_eq,decide_eq_true_eq,Bool.not_eq_true',decide_eq_false_iff_not,cxK,and_assoc,Bool.false_eq_true,↓reduceIte,ZmA,Zi9,ZkA,ZoH,ZoI,Zmo,Zku,Zm7,ZoR,rCat,rIsi,ZlB,Zpd,ZjP,ZlE,rLen,rLof,rTof,rEqD,Zo8,rIn,rSlQ,Zpm,rAll,rIxQ,tRev,rSlL,ZoP,Zjx,tSl,ipI,ZjC,rRep,ZmI,Zo4,Zpp,V.str.injEq,rSlV,Zps,tLam,ZjU,gLst,ZjV,Zjl,Zl1,cp18,cp60,qm1,qm2,qm3,qm4]
 have fin:∀g:Int,0<=g->∀p,H p=none->Q (V.ref p) (upd H p (.lst [V.int g])):=λg hg p hp=>k1 p _ hp ((Zg.refl H).upd hp) ⟨_,Zc,hg⟩
 refine⟨_,.inl hS,ZF (λhk=>?_) (λhk=>?_)⟩
 case' refine_1 =>
  obtain⟨j,hj0⟩:=YZ h0
  have hj:j<(ns.map V.int).length:=by omega
  refine⟨_,hS,_,ZhE hj0 hj,ns[j]'(by simpa using hj),by simp,ZF (λc=>⟨by decide,fin _ (Int.sub_nonneg.mpr c)⟩) (λ_=>⟨by decide,ZmB (by decide) (by decide),by decide,by decide,?_⟩)⟩
 case' refine_2 =>
  refine ZF (λz=>absurd z (by decide)) (λ_=>⟨by decide,ZmB (by decide) (by decide),by decide,by decide,?_⟩)
 all_goals
  refine Zbd (λi σ H'=>∃v2 g o v5,σ=[some (.ref a),some (.int k),v2,some (.int o),some (.int g),v5]/\0<=g/\H'=H) ⟨_,0,_,none,rfl,Int.le_refl _,rfl⟩ ?_ ?_
  ·rintro i σ H' hi ⟨v2,g,o,v5,rfl,hg,rfl⟩
   walk_at "rd"
   have b1:=Int.emod_nonneg (o*48271+12345) (b:=2147483647) (by decide)
   have b2:=Int.emod_lt_of_pos (o*48271+12345) (b:=2147483647) (by decide)
   refine⟨mul_r (by decide) (by decide),by decide,mul_r (by decide) (by decide),ZmB (by omega) (by omega),by decide,⟨by decide,by decide⟩,by decide,?_⟩
   have b3:=Int.emod_nonneg ((o*48271+12345) % 2147483647*((o*48271+12345) % 2147483647) % 2147483629 / 64) (b:=16777216) (by decide)
   have b4:=Int.mul_nonneg hg (show(0:Int)<=16777216 by decide)
   omega
  ·rintro σ H' ⟨v2,g,o,v5,rfl,hg,rfl⟩
   walk_at "rd"
   exact⟨by decide,fin g hg⟩
theorem Zj5 {f:Addr}{fd:FuncData} (F:Fun K "_law_take" "_law_take" ZaX f fd) (T:Txt K mg):FnOk P w K mg base (CXE P w) 1 f fd ["pot","many"] (Zag K mg):=by
 refine F.okX Zgf (λvs H Q E h=>?_) (λcdv A outer s H vs Q E hr h=>?_)
 ·obtain⟨p,many,rfl,_⟩:=h;rfl
 obtain⟨p,many,rfl,h0,h1,⟨x,hp,hx⟩,k1⟩:=h
 refine⟨_,(Zd (Zp (i:=2) Zgf.nd rfl (Or.inl rfl) (Zs Zem (Zw Zz (pv 0) Ze (λ_ _=>rfl)) (pv 1)))
   (Zd (Zcx (Zs Zgb (Zw Zz (pv 0) Ze (λ_ _=>rfl)) (pv 1)) (Zel (pv 0) Ze set_list (λ_=>rfl)))
   (Zf (Zt (pv 2))))),?_⟩
 walk_at "rd"
 refine⟨_,SqL.of hp,_,rfl,_,rfl,h0,?_⟩
 refine⟨_,SqL.of hp,_,rfl,_,rfl,⟨h0,by omega⟩,_,hp,_,rfl,?_⟩
 exact k1 _ _ (Int.emod_nonneg _ (by omega)) (Int.emod_lt_of_pos _ h0) ⟨_,Zc,Int.ediv_nonneg hx (by omega)⟩ Exc.upd
theorem ZkY {f:Addr}{fd:FuncData} (F:Fun K "_law_row" "_law_row" Zbg f fd) (Zm:Callee P w K mg base "_law_take" 1 ["pot","many"] (Zag K mg)) (T:Txt K mg):FnOk P w K mg base (CXE P w) 2 f fd ["pot","most"] (Zew K mg):=by
 refine F.okX Zaw (λvs H Q E h=>?_) (λcdv A outer s H vs Q E hr h=>?_)
 ·obtain⟨p,most,rfl,_⟩:=h;rfl
 obtain⟨p,most,rfl,h0,h1,hP,k1⟩:=h
 refine⟨_,(Zd (Zp (i:=2) Zaw.nd rfl (Or.inl rfl) (Zi Zm (hr.mono (by decide)) rfl Zx (Za (pv 0) (Za (Zs Za4 (pv 1) Ze) Zb))))
   (Zd (Zp (i:=3) Zaw.nd rfl (Or.inl rfl) (Zi Zm (hr.mono (by decide)) rfl Zx (Za (pv 0) (Za Ze Zb))))
   (Zd (Zp (i:=4) Zaw.nd rfl (Or.inl rfl) (Zs Za4 Ze (Zi Zm (hr.mono (by decide)) rfl Zx (Za (pv 0) (Za Ze Zb)))))
   (Zd (Zp (i:=5) Zaw.nd rfl (Or.inr rfl) (ZaJ Zb))
   (Zd (Zbz (Zdi PassesOwn.never rfl (ZL rfl T.b_range (Za (pv 2) Zb)) (Zr (i:=6) Zaw.nd rfl (Or.inl rfl)) (Zf (ZO (Zn Zeo (pv 3) Ze (Zo _)) (Zf (ZaM (Zd7 PySem.F.plainAttrs_list PySem.F.slot_list_append PySem.F.type_list_append Zay (pv 5) (Za (Zi Zm (hr.mono (by decide)) rfl Zx (Za (pv 0) (Za (pv 4) Zb))) Zb)))) (Zf (ZO (Zn Za5 (pv 3) Ze (Zo _)) (Zf (ZaM (Zd7 PySem.F.plainAttrs_list PySem.F.slot_list_insert PySem.F.type_list_insert Zni (pv 5) (Za (Zi Zm (hr.mono (by decide)) rfl Zx (Za (pv 0) (Za (Zs Za4 (pv 6) Ze) Zb))) (Za (pv 6) Zb))))) (Zf (ZO (Zn Za5 (pv 3) Ze (Zo _)) (Zf (ZaM (Zd7 PySem.F.plainAttrs_list PySem.F.slot_list_append PySem.F.type_list_append Zay (pv 5) (Za (Zs Zat (Zs Zem (pv 6) (pv 4)) (Zs Zgb (pv 6) (pv 4))) Zb)))) (Zf (ZO (Zn Za5 (pv 3) Ze (Zo _)) (Zf (ZaM (Zd7 PySem.F.plainAttrs_list PySem.F.slot_list_append PySem.F.type_list_append Zay (pv 5) (Za (Zw Zz (ZaJ (Za (pv 6) (Za (Zd5 Zbw (pv 6)) Zb))) (Zs Zem (pv 4) Ze) (λ_ _=>rfl)) Zb)))) (Zf (ZO (Zn Za5 (pv 3) Ze (Zo _)) (Zf (ZaM (Zd7 PySem.F.plainAttrs_list PySem.F.slot_list_append PySem.F.type_list_append Zay (pv 5) (Za (Zs Zbn (Zs Zat (Zi Zm (hr.mono (by decide)) rfl Zx (Za (pv 0) (Za Ze Zb))) Ze) (Zs Zen Ze Ze)) Zb)))) (Zf (ZaM (Zd7 PySem.F.plainAttrs_list PySem.F.slot_list_append PySem.F.type_list_append Zay (pv 5) (Za (Zs Zat (Zi Zm (hr.mono (by decide)) rfl Zx (Za (pv 0) (Za Ze Zb))) Ze) Zb))))))))))))))))
   (Zd (ZO (Zn Za5 (pv 3) Ze (Zo _)) (Zf (Zp (i:=5) Zaw.nd rfl (Or.inr rfl) (Zaj ["k","row"] [none,some 5] rfl rfl rfl (ZL rfl T.b_range (Za (pv 2) Zb)) (λ_ _ _ _ _=>(Zr (i:=0) (show(["k","row"]:List Str).Nodup from by decide +kernel) rfl (Or.inl rfl))) (λ_ _ _ _ _=>Zaa) (λ_ _ _ _ _=>(pe_bmK (K:=K) rfl PySem.F.plainAttrs_list PySem.F.slot_list_index PySem.F.type_list_index (Zpb (K:=K) rfl) (pv 1) (Za (pv 0) Zb))) Zy))) ZE)
   (Zf (Zt (pv 5))))))))),?_⟩
 refine ZaL (fun σ Hx=>∃m:Int,σ=[some (.ref p),some (.int most),some (.int m),none,none,none,none]/\0<=m/\m<=most/\ZD Hx p/\Exc p H Hx) (λR hR=>?_) ?_
 ·walk_at "rd"
  exact⟨p,_,rfl,by omega,by omega,hP,λd H1 d0 d1 P1 e1=>hR _ _ ⟨d,rfl,d0,by omega,P1,e1⟩⟩
 rintro σ H1 ⟨many,rfl,m0,m1,P1,e1⟩
 refine ZaL (fun σ Hx=>∃k:Int,σ=[some (.ref p),some (.int most),some (.int many),some (.int k),none,none,none]/\0<=k/\k<8/\ZD Hx p/\Exc p H Hx) (λR hR=>?_) ?_
 ·walk_at "rd"
  exact⟨p,_,rfl,by decide,by decide,P1,λd H2 d0 d1 P2 e2=>hR _ _ ⟨d,rfl,d0,d1,P2,e1.trans e2⟩⟩
 clear P1 e1 H1
 rintro σ H1 ⟨kd,rfl,d0,d1,P1,e1⟩
 refine ZaL (fun σ Hx=>∃t:Int,σ=[some (.ref p),some (.int most),some (.int many),some (.int kd),some (.int t),none,none]/\2<=t/\t<6/\ZD Hx p/\Exc p H Hx) (λR hR=>?_) ?_
 ·walk_at "rd"
  exact⟨p,_,rfl,by decide,by decide,P1,λd H2 d0 d1 P2 e2=>⟨d,rfl,hR _ _ ⟨_,rfl,by omega,by omega,P2,e1.trans e2⟩⟩⟩
 clear P1 e1 H1
 rintro σ H1 ⟨tn,rfl,t0,t1,P1,e1⟩
 refine ZaL (fun σ Hx=>∃q:Addr,σ=[some (.ref p),some (.int most),some (.int many),some (.int kd),some (.int tn),some (.ref q),none]/\H q=none/\q≠p/\Hx q=some (.lst [])/\ZD Hx p/\Exc p H Hx) (λR hR=>?_) ?_
 ·walk_at "rd"
  exact⟨Yt _,λq hq=>hR _ _ ⟨q,rfl,e1.free (P1.ne hq) hq,P1.ne hq,Zc,P1.upd hq,e1.same ((Zg.refl H1).upd hq)⟩⟩
 clear P1 e1 H1
 rintro σ H1 ⟨q,rfl,zq,nqp,hq1,P1,e1⟩
 refine ZaL (fun σ Hx=>∃(ns:List Int) (v6:Option V),σ=[some (.ref p),some (.int most),some (.int many),some (.int kd),some (.int tn),some (.ref q),v6]/\(ns.length:Int)=many/\(kd=3->∀j:Nat,(j:Int)<many->(j:Int)∈ns)/\Hx q=some (.lst (ns.map V.int))/\ZD Hx p/\Exc p H Hx) (λR hR=>?_) ?_
 ·walk_at "rd"
  refine⟨by omega,by omega,?_⟩
  refine Zbd (λi σ Hx=>∃(ns:List Int) (v6:Option V),σ=[some (.ref p),some (.int most),some (.int many),some (.int kd),some (.int tn),some (.ref q),v6]/\ns.length=i/\(kd=3->∀j:Nat,j<i->(j:Int)∈ns)/\Hx q=some (.lst (ns.map V.int))/\ZD Hx p/\Exc p H Hx) ⟨[],none,rfl,rfl,(λ_ j hj=>absurd hj (by omega)),hq1,P1,e1⟩ ?_ ?_
  ·rintro i σ Hx hi ⟨ns,v6,rfl,hl,hin,hqx,Px,ex⟩
   have hi':i<1000:=by omega
   have hb:(ns.map V.int).length<sizeLine:=YE (show _<=1000 by rw[Yl];omega) (by decide)
   have app:kd≠3->∀(y:Int) (Hy:Hp),Hy q=some (.lst (ns.map V.int))->ZD Hy p->Exc p H Hy->∃x_1,Hy q=some (HO.lst x_1)/\x_1.length<sizeLine/\∃ns':List Int,ns'.length=i+1/\(kd=3->∀(j:Nat),j<i+1->(j:Int)∈ns')/\upd Hy q (HO.lst (x_1++[V.int y])) q=some (HO.lst (List.map V.int ns'))/\ZD (upd Hy q (HO.lst (x_1++[V.int y]))) p/\Exc p H (upd Hy q (HO.lst (x_1++[V.int y]))):=λn3 y Hy hy Py ey =>
    ⟨_,hy,hb,ns++[y],by simp[hl],(λz=>absurd z n3),by rw[Zc];simp,Py.ZjO nqp,ey.ZjO zq⟩
   walk_at "rd"
   refine ZF (λk3=>⟨Zai hqx,p,_,rfl,by omega,by omega,Px,λd H2 d0 d1 P2 e2=>app (by omega) d H2 (e2 _ _ nqp hqx) P2 (ex.trans e2)⟩) λk3=>?_
   refine ZF (λk4=>⟨Zai hqx,p,_,rfl,by omega,by omega,Px,λd H2 d0 d1 P2 e2=>?_⟩) λk4=>?_
   ·refine⟨_,d,rfl,e2 _ _ nqp hqx,d0,by omega,hb,ns.take d.toNat++(0+(i:Int))::ns.drop d.toNat,by simp;omega,λ_ j hj=>?_,by rw[Zc];simp,P2.ZjO nqp,(ex.trans e2).ZjO zq⟩
    by_cases ej:j=i
    ·rw[ej];simp
    ·have hm:=hin k4 j (by omega)
     rw[<-Y3 d.toNat ns]at hm
     rcases Yy.mp hm with z|z
     ·exact YG _ z
     ·exact Yk _ (Yz _ z)
   refine ZF (λk5=>⟨Zai hqx,by omega,⟨by omega,by omega⟩,app k4 _ Hx hqx Px ex⟩) λk5=>?_
   refine ZF (λk6=>⟨Zai hqx,by decide,λu hu=>⟨by decide,?_⟩⟩) λk6=>?_
   ·obtain⟨v,hv,y,rfl⟩:=ZjK (xs:=[V.int (0+(i:Int)),V.int (-(0+(i:Int)))]) (i:=tn % 2) (λv=>∃y:Int,v=V.int y) (by omega) (by show _<((2:Nat):Int);omega) (by
     intro x hx
     simp only[Ym,List.not_mem_nil,or_false]at hx
     rcases hx with rfl|rfl<;>exact⟨_,rfl⟩)
    have g:=(Zg.refl Hx).upd (o:=.lst [V.int (0+(i:Int)),V.int (-(0+(i:Int)))]) hu
    exact⟨_,SqL.of Zc,_,hv,app k4 y _ (g _ _ hqx) (Px.same g) (ex.same g)⟩
   exact ZF (λk7=>⟨Zai hqx,p,_,rfl,by decide,by decide,Px,λd H2 d0 d1 P2 e2=>⟨d,rfl,cp59,ZmB (by omega) (by omega),app k4 _ H2 (e2 _ _ nqp hqx) P2 (ex.trans e2)⟩⟩) λk7=>⟨Zai hqx,p,_,rfl,by decide,by decide,Px,λd H2 d0 d1 P2 e2=>⟨d,rfl,app k4 _ H2 (e2 _ _ nqp hqx) P2 (ex.trans e2)⟩⟩
  ·rintro σ Hx ⟨ns,v6,rfl,hl,hin,hqx,Px,ex⟩
   exact hR _ _ ⟨ns,v6,rfl,by omega,(λz j hj=>hin z j (by omega)),hqx,Px,ex⟩
 clear P1 e1 hq1 H1
 rintro σ H1 ⟨ns,v6,rfl,hl,hin,hq1,P1,e1⟩
 refine ZaL (fun σ Hx=>∃(q:Addr) (ns:List Int) (v6:Option V),σ=[some (.ref p),some (.int most),some (.int many),some (.int kd),some (.int tn),some (.ref q),v6]/\H q=none/\(ns.length:Int)=many/\Hx q=some (.lst (ns.map V.int))/\ZD Hx p/\Exc p H Hx) (λR hR=>?_) ?_
 ·walk_at "rd"
  refine ZF (λk3=>⟨by omega,by omega,?_⟩) λk3=>hR _ _ ⟨q,ns,v6,rfl,zq,hl,hq1,P1,e1⟩
  refine comp_map (n:=many.toNat) (λj=>V.int ((ns.idxOf ((j:Nat):Int):Nat):Int)) (YE (show _<=1000 by omega) (by decide)) (λj Hx s hj=>hj) (λHx s=>Yf _) ?_ ?_
  ·rintro j x Hx Hy hj s ⟨rfl,rfl⟩
   have e0:((0:Int)+(j:Int))=(j:Int):=by omega
   rw[e0]
   walk_at "rd"
   exact⟨Zai (s _ _ hq1),_,SqL.of (s _ _ hq1),by omega,hin k3 j (by omega),CW.next hj rfl s⟩
  ·intro l Hx s hlx
   have em:(List.range many.toNat).map (λj=>V.int ((ns.idxOf ((j:Nat):Int):Nat):Int))=((List.range many.toNat).map λj=>((ns.idxOf ((j:Nat):Int):Nat):Int)).map V.int:=by rw[Y2];rfl
   rw[em]
   exact hR _ _ ⟨l,_,v6,rfl,e1.free ((P1.same s).ne hlx) (s.free hlx),by simp;omega,Zc,(P1.same s).upd hlx,(e1.same s).same ((Zg.refl Hx).upd hlx)⟩
 rintro σ H2 ⟨q2,ms,v6',rfl,zq2,hl2,hq2,P2,e2⟩
 walk_at "rd"
 exact k1 q2 ms _ zq2 (by omega) hq2 P2 e2
theorem ZiL {f:Addr}{fd:FuncData} (F:Fun K "_law_elder" "_law_elder" ZaF f fd) (T:Txt K mg):FnOk P w K mg base (CXE P w) 1 f fd ["row","place"] (Zcz K mg):=by
 refine F.okX ZcG (λvs H Q E h=>?_) (λcdv A outer s H vs Q E hr h=>?_)
 ·obtain⟨r,ns,i,rfl,_⟩:=h;rfl
 obtain⟨r,ns,i,rfl,hr1,hn,hi,k1⟩:=h
 refine⟨_,(Zd (Zes (i:=2) ["other","row","place"] [none,some 0,some 1] ZcG.nd rfl (Or.inl rfl) rfl rfl rfl (ZL rfl T.b_range (Za (pv 1) Zb)) (λ_ _ _ _ _=>(Zr (i:=0) (show(["other","row","place"]:List Str).Nodup from by decide +kernel) rfl (Or.inl rfl))) (λ_ _ _ _ _=>ZcZ (Zn Zi2 (Zw (ZiE (K:=K) rfl) (pv 1) (pv 0) (λ_ _=>rfl)) (Zw (ZiE (K:=K) rfl) (pv 1) (pv 2) (λ_ _=>rfl)) (Zo _))) (λ_ _ _ _ _=>(pv 0)) Zy)
   (Zd (Zes (i:=3) ["other","row","place"] [none,some 0,some 1] ZcG.nd rfl (Or.inl rfl) rfl rfl rfl (Zm3 rfl T.b_range (Za (Zs Za4 (pv 1) Ze) (Za (Zh (Zk (K:=K) rfl) rfl T.b_len Yq (Za (pv 0) Zb)) Zb))) (λ_ _ _ _ _=>(Zr (i:=0) (show(["other","row","place"]:List Str).Nodup from by decide +kernel) rfl (Or.inl rfl))) (λ_ _ _ _ _=>ZcZ (Zn Zeo (Zw (ZiE (K:=K) rfl) (pv 1) (pv 0) (λ_ _=>rfl)) (Zw (ZiE (K:=K) rfl) (pv 1) (pv 2) (λ_ _=>rfl)) (Zo _))) (λ_ _ _ _ _=>(pv 0)) Zy)
   (Zd (ZO (PW.pt (Zg3 (Zn (Zfq (K:=K) rfl hr) (pv 2) (ZaJ Zb) (Zo _)) (Zei (Zn (Zfq (K:=K) rfl hr) (pv 3) (ZaJ Zb) (Zo _))))) (Zf (Zt (Zw Zz (Zs ZoV (Zs ZoV (ZcX ZfV (pv 2) (Ze1 (Zd5 Zbw Ze)) Ze0) (ZcX ZfV (pv 3) Ze0 (Ze1 Ze))) (ZaJ (Za (Zd5 Zbw Ze) Zb))) Ze (λ_ _=>rfl)))) ZE)
   (Zd (ZO (Zn Zd6 (Zw (ZiE (K:=K) rfl) (pv 0) (Zw Zz (pv 2) (Zd5 Zbw Ze) (λ_ _=>rfl)) (λ_ _=>rfl)) (Zw (ZiE (K:=K) rfl) (pv 0) (Zw Zz (pv 3) Ze (λ_ _=>rfl)) (λ_ _=>rfl)) (Zo _)) (Zf (Zt (Zw Zz (pv 2) (Zd5 Zbw Ze) (λ_ _=>rfl)))) ZE)
   (Zf (Zt (Zw Zz (pv 3) Ze (λ_ _=>rfl)))))))),?_⟩
 have eL:(ns.map V.int).length=ns.length:=Yl ..
 have EE:=ZkF (f:=nth ns) hi
 generalize hA:((List.range i).filter λq=>decide (nth ns q<=nth ns i))=A at EE
 generalize hB:((List.range (ns.length-(i+1))).filter λj=>decide (nth ns (i+1+j)<nth ns i))=B at EE
 have hqa:∀q∈A,q<ns.length:=λq hq=>by
  rw[<-hA]at hq
  have:=YF.mp (YU.mp hq).1;omega
 have hqb:∀j∈B,i+1+j<ns.length:=λj hq=>by
  rw[<-hB]at hq
  have:=YF.mp (YU.mp hq).1;omega
 refine ZaL (fun σ Hz=>∃a,σ=[some (.ref r),some (.int (i:Int)),some (.ref a),none]/\Zg H Hz/\Hz a=some (.lst (ZC A))) (λR hR=>?_) ?_
 ·walk_at "rd"
  refine⟨by omega,by omega,?_⟩
  have e1:((i:Int)).toNat=i:=by omega
  rw[e1]
  refine Zc2 (n:=i) (λq=>decide (nth ns q<=nth ns i)) (λq=>V.int ((q:Nat):Int)) (YE (show _<=1000 by omega) (by decide)) (λj Hx s hj=>hj) (λHx s=>Yf _) ?_ ?_
  ·rintro j x Hx Hz hj s ⟨rfl,rfl⟩
   have e0:((0:Int)+(j:Int))=(j:Int):=by omega
   rw[e0]
   walk_at "rd"
   exact⟨_,s.q hr1,_,ZN (by omega),_,s.q hr1,_,ZN (by omega),_,rfl,_,rfl,ZF (λh=>CF.take hj (YC h) rfl s) (λh=>CF.skip hj (YJ h) s)⟩
  ·intro l1 H1 s1 hl1
   exact hR _ _ ⟨l1,rfl,s1.ZT hl1,by rw[Zc,hA];rfl⟩
 rintro σ Hx ⟨a,rfl,sx,hxa⟩
 refine ZaL (fun σ Hy=>∃b,σ=[some (.ref r),some (.int (i:Int)),some (.ref a),some (.ref b)]/\Zg H Hy/\Hy a=some (.lst (ZC A))/\Hy b=some (.lst (ZC (B.map λj=>i+1+j)))) (λR hR=>?_) ?_
 ·walk_at "rd"
  refine⟨_,(sx.q hr1),by omega,by omega,by omega,by rw[eL];omega,?_⟩
  have e1:((((ns.map V.int).length:Nat):Int)-((i:Int)+1)).toNat=ns.length-(i+1):=by rw[eL];omega
  rw[e1]
  refine Zc2 (n:=ns.length-(i+1)) (λq=>decide (nth ns (i+1+q)<nth ns i)) (λq=>V.int ((i+1+q:Nat):Int)) (YE (show _<=1000 by omega) (by decide)) (λj Hx s hj=>hj) (λHx s=>Yf _) ?_ ?_
  ·rintro j x Hy Hz hj s ⟨rfl,rfl⟩
   have e0:((i:Int)+1+(j:Int))=((i+1+j:Nat):Int):=by omega
   rw[e0]
   walk_at "rd"
   exact⟨_,(sx.trans s).q hr1,_,ZN (by omega),_,(sx.trans s).q hr1,_,ZN (by omega),_,rfl,_,rfl,ZF (λh=>CF.take hj (YC h) rfl s) (λh=>CF.skip hj (YJ h) s)⟩
  ·intro l1 H1 s1 hl1
   exact hR _ _ ⟨l1,rfl,(sx.trans s1).ZT hl1,(s1.ZT hl1) _ _ hxa,by rw[Zc,hB];simp[ZC,Function.comp_def]⟩
 clear sx hxa Hx
 rintro σ Hx ⟨b,rfl,sx,hxa,hxb⟩
 have ka:Zcy (ZC A) (some (-1)) none=ZC (A.drop (A.length-1)):=by rw[cut_m1,ZR];simp[ZC,List.map_drop]
 have kb:Zcy (ZC (B.map λj=>i+1+j)) none (some 1)=ZC ((B.take 1).map λj=>i+1+j):=by rw[Zrr];simp[ZC,List.map_take]
 have lA:A.length<=1000:=by rw[<-hA];exact Yn (Ja _ _) (by simp;omega)
 refine ZaL (fun σ Hy=>σ=[some (.ref r),some (.int (i:Int)),some (.ref a),some (.ref b)]/\Zg Hx Hy/\A≠[]/\B≠[]) (λR hR=>?_) ?_
 ·refine ifR (λH1=>Zg Hx H1/\(A=[]\/B=[])) (λH1=>Zg Hx H1/\A≠[]/\B≠[]) ?_ ?_ ?_
  ·rintro H1 ⟨s1,hc⟩
   have key:∃e:Int,atI (ZC (A.drop (A.length-1))++ZC ((B.take 1).map λj=>i+1+j)++[V.int (-1)]) 0=some (V.int e)/\ZJ (nth ns) ns.length i e:=by
    rcases hc with rfl|rfl
    ·cases B with
     |nil=>exact⟨-1,rfl,by simpa using EE⟩
     |cons j B'=>exact⟨((i+1+j:Nat):Int),rfl,by simpa using EE⟩
    ·rcases snoc_cases A with rfl|⟨ys,y,rfl⟩
     ·exact⟨-1,rfl,by simpa using EE⟩
     ·refine⟨(y:Int),?_,by simpa using EE⟩
      have:(ys++[y]).drop ((ys++[y]).length-1)=[y]:=by simp
      rw[this];rfl
   obtain⟨e,he,hE⟩:=key
   have m1:=s1 _ _ hxa
   have m2:=s1 _ _ hxb
   walk_at "rd"
   refine⟨_,SqL.of m1,λc1 z1=>?_⟩
   rw[ka]
   have u1:=(Zg.refl H1).upd (o:=.lst (ZC (A.drop (A.length-1)))) z1
   refine⟨_,SqL.of (u1 _ _ m2),λc2 z2=>?_⟩
   rw[kb]
   have u2:=(Zg.refl _).upd (o:=.lst (ZC ((B.take 1).map λj=>i+1+j))) z2
   refine⟨_,u2 _ _ Zc,_,Zc,Yn (show _<=1001 by rw[ZR,ZR];simp;omega) (by decide),λc3 z3=>⟨by decide,λc4 z4=>?_⟩⟩
   have u4:=(Zg.refl _).upd (o:=.lst [V.int (-1)]) z4
   refine⟨_,u4 _ _ Zc,_,Zc,Yn (show _<=1003 by rw[YL,ZR,ZR];simp;omega) (by decide),λc5 z5=>⟨_,SqL.of Zc,_,he,k1 e _ hE (((((((sx.trans s1).trans u1).trans u2).ZT z3).trans u4).ZT z5))⟩⟩
  ·rintro H1 ⟨s1,hc⟩
   walk_at "rd"
   exact hR _ _ ⟨rfl,s1,hc⟩
  ·intro B0 hT hU
   walk_at "rd"
   refine⟨Yt _,λc hc=>?_⟩
   have u1:=(Zg.refl Hx).upd (o:=.lst []) hc
   refine⟨_,ZmP (u1 _ _ hxa) Zc,?_⟩
   by_cases zA:A=[]
   ·exact ZF (λ_=>hT _ ⟨u1,.inl zA⟩) λz=>absurd (YC zA) z
   refine ZF (λz=>absurd (YV z) zA) λ_=>⟨Yt _,λd hd=>?_⟩
   have u2:=u1.ZT (o:=.lst []) hd
   refine⟨_,ZmP (u2 _ _ hxb) Zc,?_⟩
   by_cases zB:B=[]
   ·have:decide (B.map (λj=>i+1+j)=[])=true:=YC (by rw[zB];rfl)
    rw[this];exact hT _ ⟨u2,.inr zB⟩
   ·have:decide (B.map (λj=>i+1+j)=[])=false:=YJ (by simpa using zB)
    rw[this];exact hU _ ⟨u2,zA,zB⟩
 rintro σ Hy ⟨rfl,sy,nA,nB⟩
 replace hxa:=sy _ _ hxa
 replace hxb:=sy _ _ hxb
 replace sx:=sx.trans sy
 rcases snoc_cases A with rfl|⟨ys,y,rfl⟩
 ·exact absurd rfl nA
 cases B with
 |nil=>exact absurd rfl nB
 |cons j B' =>
  have hy:y<ns.length:=hqa y (by simp)
  have hj:i+1+j<ns.length:=hqb j (by simp)
  have el:atI (ZC (ys++[y])) (-1)=some (V.int (y:Int)):=by rw[Zc1];exact ZoQ _ _
  have ej:atI (ZC ((j::B').map λj=>i+1+j)) 0=some (V.int ((i+1+j:Nat):Int)):=Zf6 (j:=0) rfl
  have eg:(ys++[y]).getLast?=some y:=by simp
  rw[eg]at EE
  walk_at "rd"
  refine⟨_,SqL.of hxa,_,el,_,_,rfl,sx.q hr1,_,ZN hy,_,SqL.of hxb,_,ej,_,_,rfl,sx.q hr1,_,ZN hj,_,rfl,_,rfl,ZF (λz=>⟨_,SqL.of hxa,_,el,k1 _ _ ?_ sx⟩) λz=>⟨_,SqL.of hxb,_,ej,k1 _ _ ?_ sx⟩⟩
  ·simp only[List.head?_cons,Yb (show ¬ nth ns y<=nth ns (i+1+j) by omega)]at EE
   exact EE
  ·simp only[List.head?_cons,Yd (show nth ns y<=nth ns (i+1+j) by omega)]at EE
   exact EE
theorem Zj6 {f:Addr}{fd:FuncData} (F:Fun K "_law_tree" "_law_tree" ZaY f fd) (Zdy:Callee P w K mg base "_law_elder" 1 ["row","place"] (Zcz K mg)) (T:Txt K mg):FnOk P w K mg base (CXE P w) 2 f fd ["row"] (ZbM K mg):=by
 refine F.okX Zj3 (λvs H Q E h=>?_) (λcdv A outer s H vs Q E hr h=>?_)
 ·obtain⟨r,ns,rfl,_⟩:=h;rfl
 obtain⟨r,ns,rfl,hr0,hn,k1⟩:=h
 refine⟨_,(Zf (Zt (Z9 (ZaT (K:=K) rfl) rfl T.b_tuple Zau (Za (Zaj ["place","row"] [none,some 0] rfl rfl rfl (ZL rfl T.b_range (Za (Zh (Zk (K:=K) rfl) rfl T.b_len Yq (Za (pv 0) Zb)) Zb)) (λ_ _ _ _ _=>(Zr (i:=0) (show(["place","row"]:List Str).Nodup from by decide +kernel) rfl (Or.inl rfl))) (λ_ _ _ _ _=>Zaa) (λ_ _ _ _ _=>(Zi Zdy (hr.mono (by decide)) rfl Zx (Za (pv 1) (Za (pv 0) Zb)))) Zy) Zb)))),?_⟩
 walk_at "rd"
 have eL:(ns.map V.int).length=ns.length:=Yl ..
 refine⟨_,hr0,by omega,by omega,?_⟩
 have e1:(((ns.map V.int).length:Nat):Int).toNat=ns.length:=by rw[eL];omega
 rw[e1]
 refine Zf2 (n:=ns.length) (λi acc Hx=>∃es:List Int,acc=es.map V.int/\es.length=i/\(∀p,p<i->ZJ (nth ns) ns.length p (es.getD p 0))/\Zg H Hx) (YE (show _<=1000 by omega) (by decide)) ⟨[],rfl,rfl,(λp hp=>absurd hp (by omega)),Zg.refl _⟩ (λi acc Hx _ hi=>hi) (λacc Hx _=>Yf _) ?_ ?_
 ·rintro i x acc Hx Hy hi hla ⟨es,rfl,hl,hE,sx⟩ ⟨rfl,rfl⟩
  walk_at "rd"
  refine⟨r,ns,i,by rw[Int.zero_add],sx.q hr0,hn,hi,λe H2 he s2=>CA.take hi hla ⟨es++[e],by simp,by simp[hl],λp hp=>?_,sx.trans s2⟩⟩
  by_cases z:p<es.length
  ·rw[show(es++[e]).getD p 0=es.getD p 0 by simp[Yp,Y4 z]]
   exact hE p (by omega)
  ·have ep:p=es.length:=by omega
   rw[show(es++[e]).getD p 0=e by rw[ep];simp[Yp],ep,hl]
   exact he
 ·rintro l acc Hx ⟨es,rfl,hl,hE,sx⟩ _ hlx
  refine⟨l,rfl,_,.inl ⟨SqL.of Zc,λt ht=>k1 t es _ ⟨hl,hE⟩ ((sx.ZT hlx).ZT ht) Zc⟩⟩
theorem ZnG {f:Addr}{fd:FuncData} (F:Fun K "settle" "settle" Zc6 f fd) (T:Txt K mg):FnOk P w K mg base (CXE P w) 1 f fd ["elders","spine","place","keep"] (ZgG K mg):=by
 refine F.okX ZnE (λvs H Q E h=>?_) (λcdv A outer s H vs Q E hr h=>?_)
 ·obtain⟨el,sp,es,A,B,i,rfl,_⟩:=h;rfl
 obtain⟨el,sp,es,A',B,i,rfl,hel,hsp,hne,hi,hq,hlen,k1⟩:=h
 refine⟨_,(Zd (ZO (Zn Zeo (pv 3) (Zh (Zk (K:=K) rfl) rfl T.b_len Yq (Za (pv 1) Zb)) (Zo _)) (Zf (Zcx (pv 2) (Zel (pv 0) (Zw Zz (pv 1) (pv 3) (λ_ _=>rfl)) set_list (λ_=>rfl)))) ZE)
   (Zd (ZO (Zn Zd6 (pv 3) Ze (Zo _)) (Zf (Zcx (Zw Zz (pv 1) (Zs Zat (pv 3) Ze) (λ_ _=>rfl)) (Zel (pv 0) (pv 2) set_list (λ_=>rfl)))) ZE)
   (Zd (ZlH (pv 1) (pv 3))
   (Zf (ZaM (Zd7 PySem.F.plainAttrs_list PySem.F.slot_list_append PySem.F.type_list_append Zay (pv 1) (Za (pv 2) Zb))))))),?_⟩
 walk_at "rd"
 have hb1:(ZC A').length<sizeLine:=by
  rw[ZR]
  rw[YL]at hlen
  exact YE (show _<=1000 by omega) (by decide)
 have etk:List.take A'.length (ZC (A'++B))=ZC A':=by
  rw[Zc1]
  have:A'.length=(ZC A').length:=(ZR A').symm
  rw[this,List.take_left]
 have hle:A'.length<=(ZC (A'++B)).length:=by rw[ZR,YL];omega
 have esn:ZC A'++[V.int (i:Nat)]=ZC (A'++[i]):=by rw[Zc1];rfl
 refine⟨_,.inl (SqL.of hsp),?_⟩
 rw[ZR,YL]
 -- the end: behind the two stores
 have fin:∀(es1:List Int) (Hx:Hp),(∀b o,b≠el->b≠sp->H b=some o->Hx b=some o)->Hx el=some (.lst (es1.map V.int))->Hx sp=some (.lst (ZC (A'++B)))->es1=Zhk es A' B i ->
   ∃(xs:List V) (k:Nat),(A'.length:Int)=(k:Int)/\Hx sp=some (HO.lst xs)/\k<=xs.length/\tyV K "list" (V.ref sp) (upd Hx sp (HO.lst (List.take k xs)))/\∃x,upd Hx sp (HO.lst (List.take k xs)) sp=some (HO.lst x)/\x.length<sizeLine/\Q V.non (upd (upd Hx sp (HO.lst (List.take k xs))) sp (HO.lst (x++[V.int (i:Nat)]))):=by
  intro es1 Hx h1 h2 h3 h4
  refine⟨_,A'.length,rfl,h3,hle,Zai Zc,_,Zc,by rw[etk];exact hb1,k1 _ (λb o n1 n2 z=>by rw[Zj n2,Zj n2];exact h1 b o n1 n2 z) (by rw[Zj hne,Zj hne,h2,h4]) (by rw[Zc,etk,esn])⟩
 -- elders[place]=spine[keep-1]
 have mid:∀(es1:List Int) (Hx:Hp),(∀b o,b≠el->b≠sp->H b=some o->Hx b=some o)->Hx el=some (.lst (es1.map V.int))->es1.length=es.length->Hx sp=some (.lst (ZC (A'++B)))->∀q,A'.getLast?=some q->es1.set i (q:Int)=Zhk es A' B i ->
   ∃x,SqL K Hx sp x/\∃x_1,atI x ((A'.length:Int)-1)=some x_1/\∃x,Hx el=some (HO.lst x)/\∃x_2,ixN x.length (i:Int)=some x_2/\∃(xs:List V) (k:Nat),(A'.length:Int)=(k:Int)/\upd Hx el (HO.lst (x.set x_2 x_1)) sp=some (HO.lst xs)/\k<=xs.length/\tyV K "list" (V.ref sp) (upd (upd Hx el (HO.lst (x.set x_2 x_1))) sp (HO.lst (List.take k xs))) /\
    ∃x_3,upd (upd Hx el (HO.lst (x.set x_2 x_1))) sp (HO.lst (List.take k xs)) sp=some (HO.lst x_3)/\x_3.length<sizeLine/\Q V.non (upd (upd (upd Hx el (HO.lst (x.set x_2 x_1))) sp (HO.lst (List.take k xs))) sp (HO.lst (x_3++[V.int (i:Nat)]))):=by
  intro es1 Hx h1 h2 hl1 h3 q hq h4
  have hpos:0<A'.length:=by
   cases A' with
   |nil=>cases hq
   |cons _ _=>simp
  have hat:(A'++B)[A'.length-1]?=some q:=by
   rw[Y4 (by omega)]
   rw[List.getLast?_eq_getElem?]at hq;exact hq
  have ei:((A'.length:Int)-1)=((A'.length-1:Nat):Int):=by omega
  refine⟨_,SqL.of h3,_,by rw[ei];exact Zf6 hat,_,h2,i,by rw[Yl,hl1];exact Zdm hi,?_⟩
  have em:(es1.map V.int).set i (V.int (q:Nat))=(es1.set i (q:Int)).map V.int:=by rw[List.map_set]
  rw[em]
  exact fin _ _ (λb o n1 n2 z=>by rw[Zj n1];exact h1 b o n1 n2 z) Zc (by rw[Zj hne.symm];exact h3) h4
 cases B with
 |nil =>
  rw[Yb (by simp)]
  cases hq:A'.getLast? with
  |none =>
   have:A'=[]:=List.getLast?_eq_none_iff.mp hq
   rw[Yb (by rw[this];simp)]
   exact fin es H (λb o _ _ z=>z) hel hsp (by unfold Zhk;rw[hq];rfl)
  |some q =>
   have:A'≠[]:=λz=>by rw[z]at hq;cases hq
   rw[Yd (by have:=List.length_pos_iff.mpr this;omega)]
   exact mid es H (λb o _ _ z=>z) hel rfl hsp q hq (by unfold Zhk;rw[hq];rfl)
 |cons b Br =>
  rw[Yd (by simp;omega)]
  have hat:(A'++b::Br)[A'.length]?=some b:=by rw[Y8 (Yf _)];simp
  have hbn:b<es.length:=hq b (by simp)
  refine⟨_,SqL.of hsp,_,Zf6 hat,_,_,rfl,hel,b,by rw[Yl];exact Zdm hbn,?_⟩
  have em:(es.map V.int).set b (V.int (i:Nat))=(es.set b (i:Int)).map V.int:=by rw[List.map_set]
  rw[em]
  cases hq2:A'.getLast? with
  |none =>
   have:A'=[]:=List.getLast?_eq_none_iff.mp hq2
   rw[Yb (by rw[this];simp)]
   exact fin (es.set b i) _ (λc o n1 n2 z=>by rw[Zj n1];exact z) Zc (by rw[Zj hne.symm];exact hsp) (by unfold Zhk;rw[hq2];rfl)
  |some q =>
   have:A'≠[]:=λz=>by rw[z]at hq2;cases hq2
   rw[Yd (by have:=List.length_pos_iff.mpr this;omega)]
   exact mid (es.set b i) _ (λc o n1 n2 z=>by rw[Zj n1];exact z) Zc (by simp) (by rw[Zj hne.symm];exact hsp) q hq2 (by unfold Zhk;rw[hq2];rfl)
theorem Zl6 {f:Addr}{fd:FuncData} (F:Fun K "tree_of" "tree_of" ZbY f fd) (Zh1:Callee P w K mg base "settle" 1 ["elders","spine","place","keep"] (ZgG K mg)) (T:Txt K mg):FnOk P w K mg base (CXE P w) 2 f fd ["row"] (Zds K mg):=by
 refine F.okX Zbk (λvs H Q E h=>?_) (λcdv A outer s H vs Q E hr h=>?_)
 ·obtain⟨r,ns,rfl,_⟩:=h;rfl
 obtain⟨r,ns,rfl,hS,hn,k1⟩:=h
 refine⟨_,(Zd (Zp (i:=1) Zbk.nd rfl (Or.inl rfl) (Zs op_rep (ZaJ (Za (Zd5 Zbw Ze) Zb)) (Zh (Zk (K:=K) rfl) rfl T.b_len Yq (Za (pv 0) Zb))))
   (Zd (Zp (i:=2) Zbk.nd rfl (Or.inl rfl) (ZaJ Zb))
   (Zd (Zbz (Zdi PassesOwn.never rfl (ZL rfl T.b_range (Za (Zh (Zk (K:=K) rfl) rfl T.b_len Yq (Za (pv 0) Zb)) Zb)) (Zr (i:=3) Zbk.nd rfl (Or.inl rfl)) (Zd (Zp (i:=4) Zbk.nd rfl (Or.inl rfl) (Zh (Zk (K:=K) rfl) rfl T.b_len Yq (Za (pv 2) Zb)))
   (Zd (Zbz (Zhy PassesOwn.never (PW.pt (Zfo (Zn Zd6 (pv 4) Ze (Zo _)) (Zde (Zn Zd6 (Zw (ZiE (K:=K) rfl) (pv 0) (Zw Zz (pv 2) (Zs Zat (pv 4) Ze) (λ_ _=>rfl)) (λ_ _=>rfl)) (Zw (ZiE (K:=K) rfl) (pv 0) (pv 3) (λ_ _=>rfl)) (Zo _))))) (Zf (ps_aug (i:=4) Zbk.nd rfl (Or.inl rfl) Ze ip_sub))))
   (Zf (ZaM (Zi Zh1 (hr.mono (by decide)) rfl Zx (Za (pv 1) (Za (pv 2) (Za (pv 3) (Za (pv 4) Zb)))))))))))
   (Zf (Zt (Z9 (ZaT (K:=K) rfl) rfl T.b_tuple Zau (Za (pv 1) Zb))))))),?_⟩
 walk_at "rd"
 have eL:(ns.map V.int).length=ns.length:=Yl ..
 refine⟨by decide,λp hp=>⟨_,((Zg.refl H).upd hp).q hS,_,Zc,by omega,by rw[eL];omega,?_,λel hel=>⟨Yt _,λsp hsp=>?_⟩⟩⟩
 ·exact Yn (show _<=1000 by simp;omega) (by decide)
 have s0:Zg H (upd (upd (upd H p (.lst [V.int (-1)])) el (.lst (List.replicate (((ns.map V.int).length:Nat):Int).toNat [V.int (-1)]).flatten)) sp (.lst [])):=(((Zg.refl H).upd hp).ZT hel).ZT hsp
 refine⟨_,s0.q hS,by omega,by rw[eL];omega,?_⟩
 have en:(((ns.map V.int).length:Nat):Int).toNat=ns.length:=by rw[eL];omega
 have hel0:(upd (upd (upd H p (.lst [V.int (-1)])) el (.lst (List.replicate (((ns.map V.int).length:Nat):Int).toNat [V.int (-1)]).flatten)) sp (.lst [])) el=some (.lst ((List.replicate ns.length (-1:Int)).map V.int)):=by
  have:=((Zg.refl _).ZT (o:=.lst []) hsp) el _ Zc
  rw[this,en];simp
 have hsp0:(upd (upd (upd H p (.lst [V.int (-1)])) el (.lst (List.replicate (((ns.map V.int).length:Nat):Int).toNat [V.int (-1)]).flatten)) sp (.lst [])) sp=some (.lst (ZC [])):=Zc
 have nes:el≠sp:=λz=>by
  subst z
  rw[Zc]at hsp;cases hsp
 have zel:H el=none:=((Zg.refl H).upd hp).free hel
 have zsp:H sp=none:=(((Zg.refl H).upd hp).ZT hel).free hsp
 rw[en]at hel0 hsp0 s0⊢
 generalize (upd (upd (upd H p (.lst [V.int (-1)])) el (.lst (List.replicate ns.length [V.int (-1)]).flatten)) sp (.lst []))=H0 at s0 hel0 hsp0⊢
 refine Zbd (λi σ Hx=>∃(es:List Int) (S:List Nat) (v3 v4:Option V),σ=[some (.ref r),some (.ref el),some (.ref sp),v3,v4]/\Zg H Hx/\Hx el=some (.lst (es.map V.int))/\Hx sp=some (.lst (ZC S))/\es.length=ns.length/\Zpc (nth ns) i S/\(∀p e,p<i->e=es.getD p 0->ZJ (nth ns) i p e)/\∀p,i<=p->p<ns.length->es.getD p 0=-1)
  ⟨List.replicate ns.length (-1),[],none,none,rfl,s0,hel0,hsp0,by simp,⟨List.Pairwise.nil,λq=>by simp⟩,λp e hp=>by omega,λp _ hp=>by simp[Yp,hp]⟩ ?_ ?_
 ·rintro i σ Hx hi ⟨es,S,v3,v4,rfl,sx,hxe,hxs,hesl,hS2,hE,hE2⟩
  walk_at "rd"
  have hin:i<ns.length:=by omega
  have hSl:S.length<=1000:=by
   rcases Zph S i 0 hS2.1 (λq hq=>⟨Yt _,((hS2.2 q).mp hq).1⟩)with z|z
   ·omega
   ·rw[z];simp
  refine⟨_,.inl (SqL.of hxs),?_⟩
  rw[ZR]
  refine ZmK S.length (λj σ Hy=>∃A B,S=A++B/\B.length=j/\(∀q∈B,nth ns i<nth ns q)/\σ=[some (.ref r),some (.ref el),some (.ref sp),some (.int (0+(i:Int))),some (.int (A.length:Nat))]/\Hy=Hx) ⟨S,[],by simp,rfl,(λq hq=>absurd hq (by simp)),rfl,rfl⟩ ?_
  rintro j σ Hy hj ⟨A,B,hAB,hBl,hBg,rfl,rfl⟩
  walk_at "rd"
  have hmem:∀q,q∈A++B->q<i:=λq hq=>((hS2.2 q).mp (by rw[hAB];exact hq)).1
  have hix:(0+(i:Int))=(i:Int):=by omega
  rw[hix]
  by_cases hA0:A=[]
  case' pos =>
   rw[Yb (by rw[hA0];simp)]
   have hA:∀q∈A,nth ns q<=nth ns i:=λq hq=>absurd hq (by rw[hA0];simp)
  case' neg =>
   obtain⟨q,Al,rfl⟩:∃q Al,A=Al++[q]:=⟨A.getLast hA0,A.dropLast,(List.dropLast_concat_getLast hA0).symm⟩
   have hal:(Al++[q]).length=Al.length+1:=by simp
   rw[Yd (by rw[hal];omega)]
   have eiA:(((Al++[q]).length:Nat):Int)-1=(Al.length:Int):=by rw[hal];omega
   have hat:S[Al.length]?=some q:=by
    rw[hAB,YI,Y8 (Yf _)];simp
   have hqi:q<i:=hmem q (by simp)
   refine⟨_,SqL.of hxs,_,by rw[eiA];exact Zf6 hat,_,_,rfl,sx.q hS,_,ZN (by omega),_,sx.q hS,_,ZN hin,_,rfl,_,rfl,ZF (λhlt=>?_) (λhge=>?_)⟩
   ·have hj2:j+1<=S.length:=by rw[hAB,YL,hal];omega
    refine⟨_,WI.next,hj2,Al,q::B,by rw[hAB];simp,by simp[hBl],λx hx=>?_,by rw[eiA],rfl⟩
    rcases Ym.mp hx with z|z
    ·rw[z];exact hlt
    ·exact hBg x z
   have hA:∀x∈Al++[q],nth ns x<=nth ns i:=λx hx=>by
    by_cases z:x=q
    ·rw[z];omega
    ·have hxa:x∈Al:=by
      rcases Yy.mp hx with y|y
      ·exact y
      ·exact absurd (by simpa using y) z
     have hpw:=hS2.1
     rw[hAB]at hpw
     have hxq:x<q:=(List.pairwise_append.mp (List.pairwise_append.mp hpw).1).2.2 x hxa q (by simp)
     have:=((hS2.2 x).mp (by rw[hAB];exact YG _ hx)).2 q hxq hqi
     omega
   generalize Al++[q]=A at hA hAB hmem hA0⊢
  all_goals
   have SS:=ZlG (f:=nth ns) (i:=i) (A:=A) (B:=B) (by rw[<-hAB];exact hS2) hA hBg
   refine⟨el,sp,es,A,B,i,rfl,hxe,by rw[<-hAB];exact hxs,nes,by omega,λq hq=>by have:=hmem q hq;omega,by rw[<-hAB];exact hSl,λH' q1 q2 q3=>?_⟩
   have hbi:∀b,B.head?=some b->b≠i:=λb hb=>by
    have:=hmem b (Yk _ (List.mem_of_head? hb));omega
   refine⟨λb o z=>q1 b o (Zv z zel) (Zv z zsp) (sx b o z),Zhk es A B i,q2,A++[i],q3,by rw[Zpg];exact hesl,SS.1,λp e hp he=>?_,λp hp1 hp2=>?_⟩
   ·rw[ZmM _ _ _ _ _ (by omega) hbi]at he
    by_cases z:p=i
    ·subst z
     rw[Yd rfl,hE2 p (Yf _) (by omega)]at he
     rw[he];exact SS.2.1
    ·rw[Yb z]at he
     rw[he]
     exact SS.2.2 p _ (by omega) (hE p _ (by omega) rfl)
   ·rw[ZmM _ _ _ _ _ (by omega) hbi,Yb (by omega),Yb (λz=>?_)]
    ·exact hE2 p (by omega) hp2
    ·have:=hmem p (Yk _ (List.mem_of_head? z));omega
 ·rintro σ Hx ⟨es,S,v3,v4,rfl,sx,hxe,hxs,hesl,hS2,hE,hE2⟩
  walk_at "rd"
  exact⟨_,.inl ⟨SqL.of hxe,λt ht=>k1 t es _ ⟨hesl,λp hp=>hE p _ hp rfl⟩ (sx.ZT ht) Zc⟩⟩
theorem ZnH {f:Addr}{fd:FuncData} (F:Fun K "way_up" "way_up" Zc7 f fd) (T:Txt K mg):FnOk P w K mg base (CXE P w) 1 f fd ["tree","place"] (Za0 K mg):=by
 refine F.okX Ze6 (λvs H Q E h=>?_) (λcdv A outer s H vs Q E hr h=>?_)
 ·obtain⟨t,T,p,rfl,_⟩:=h;rfl
 obtain⟨t,T',p,rfl,ht,hn,hp,k1⟩:=h
 have hQ:∀Hx,Zg H Hx->(SqL K Hx t (T'.map V.int)\/SqT K Hx t (T'.map V.int)):=λHx sx=>ht.elim (λz=>.inl (sx.seq z)) λz=>.inr (sx.seqT z)
 refine⟨_,(Zd (Zp (i:=2) Ze6.nd rfl (Or.inl rfl) (ZaJ Zb))
   (Zd (Zp (i:=3) Ze6.nd rfl (Or.inl rfl) (Zw (ZiE (K:=K) rfl) (pv 0) (pv 1) (λ_ _=>rfl)))
   (Zd (Zbz (Zhy PassesOwn.never (PW.pt (Zfo (Zks Zi2 Zeo Ze (pv 3) (Zh (Zk (K:=K) rfl) rfl T.b_len Yq (Za (pv 0) Zb))) (Zde (Zn Zeo (Zh (Zk (K:=K) rfl) rfl T.b_len Yq (Za (pv 2) Zb)) (Zh (Zk (K:=K) rfl) rfl T.b_len Yq (Za (pv 0) Zb)) (Zo _))))) (Zd (ZaM (Zd7 PySem.F.plainAttrs_list PySem.F.slot_list_append PySem.F.type_list_append Zay (pv 2) (Za (pv 3) Zb)))
   (Zf (Zp (i:=3) Ze6.nd rfl (Or.inl rfl) (Zw (ZiE (K:=K) rfl) (pv 0) (pv 3) (λ_ _=>rfl)))))))
   (Zf (Zt (pv 2)))))),?_⟩
 walk_at "rd"
 refine⟨Yt _,λl hl=>⟨_,hQ _ ((Zg.refl H).upd hl),_,ZN hp,?_⟩⟩
 refine ZmK T'.length (λj σ Hx=>Zg H Hx/\Hx l=some (.lst (ZC (Z7 T' j (nth T' p))))/\(Z7 T' j (nth T' p)).length=j/\σ=[some (.ref t),some (.int p),some (.ref l),some (.int (ZaI T' j (nth T' p)))]) ⟨(Zg.refl H).upd hl,Zc,rfl,rfl⟩ ?_
 rintro j σ Hx hj ⟨sx,hxl,hjl,rfl⟩
 walk_at "rd"
 have hlen:(ZC (Z7 T' j (nth T' p))).length=j:=by rw[ZR];exact hjl
 have eL:(T'.map V.int).length=T'.length:=Yl ..
 have done:(j=T'.length\/¬ (0<=ZaI T' j (nth T' p)/\ZaI T' j (nth T' p)<T'.length))->Q (.ref l) Hx:=λz=>by
  refine k1 l Hx hl sx ?_
  have:Z7 T' T'.length (nth T' p)=Z7 T' j (nth T' p):=by
   rcases z with z|z
   ·rw[<-z]
   ·exact Zjc T' j _ _ hj hjl z
  rw[hxl];unfold Zar;rw[this];simp[ZC]
 refine ZF (λh0=>⟨_,hQ _ sx,ZF (λh1=>⟨_,.inl (SqL.of hxl),_,hQ _ sx,ZF (λh2=>?_) λh2=>done (.inl (by rw[hlen,eL]at h2;omega))⟩) λh1=>done (.inr (by rw[eL]at h1;omega))⟩) λh0=>done (.inr (by omega))
 rw[eL]at h1;rw[hlen,eL]at h2
 obtain⟨a1,a2⟩:=Zjb T' j (nth T' p) h0 h1 hjl
 have ei:ZaI T' j (nth T' p)=(((ZaI T' j (nth T' p)).toNat:Nat):Int):=by omega
 refine⟨_,WI.next,Zai hxl,_,hxl,by rw[hlen];exact YE (show _<=1000 by omega) (by decide),_,hQ _ (sx.upd hl),_,(congrArg (atI _) ei).trans (ZN (by omega)),by omega,sx.upd hl,?_,?_,?_⟩
 ·rw[Zc,a1,Zc1]
  have:ZC [(ZaI T' j (nth T' p)).toNat]=[V.int (ZaI T' j (nth T' p))]:=by rw[ei];simp[ZC]
  rw[this]
 ·rw[a1];simp[hjl]
 ·rw[a2]
theorem Zl7 {f:Addr}{fd:FuncData} (F:Fun K "is_tree" "is_tree" ZbZ f fd) (Zb2:Callee P w K mg base "tree_of" 2 ["row"] (Zds K mg)) (ZP:Callee P w K mg base "way_up" 1 ["tree","place"] (Za0 K mg)) (T:Txt K mg):FnOk P w K mg base (CXE P w) 3 f fd ["tree"] (Zfu K mg):=by
 refine F.okX ZhT (λvs H Q E h=>?_) (λcdv A outer s H vs Q E hr h=>?_)
 ·obtain⟨t,T,rfl,_⟩:=h;rfl
 obtain⟨t,T',rfl,ht,hn,k1,k2⟩:=h
 refine⟨_,(Zd (ZO (PW.pt (Zg3 (Zej (Zdd (Zh (ZM (K:=K) rfl) rfl T.b_isinstance Zu (Za (pv 0) (Za (Zht (v:=.ty "tuple") rfl T.b_tuple Zau rfl) Zb))))) (Zei (Zn Zd6 (Zh (Zk (K:=K) rfl) rfl T.b_len Yq (Za (pv 0) Zb)) (Zax (v:=.int 40) rfl T.m_MOST_PLACES ⟨_,rfl⟩) (Zo _))))) (Zf (Zt Zeh)) ZE)
   (Zd (Zes (i:=1) ["place","tree"] [none,some 0] ZhT.nd rfl (Or.inl rfl) rfl rfl rfl (ZL rfl T.b_range (Za (Zh (Zk (K:=K) rfl) rfl T.b_len Yq (Za (pv 0) Zb)) Zb)) (λ_ _ _ _ _=>(Zr (i:=0) (show(["place","tree"]:List Str).Nodup from by decide +kernel) rfl (Or.inl rfl))) (λ_ _ _ _ _=>Zaa) (λ_ _ _ _ _=>(Zh (Zk (K:=K) rfl) rfl T.b_len Yq (Za (Zi ZP (hr.mono (by decide)) rfl Zx (Za (pv 1) (Za (pv 0) Zb))) Zb))) Zy)
   (Zf (Zt (ZaN (Zfq (K:=K) rfl hr) (Zi Zb2 (hr.mono (by decide)) rfl Zx (Za (pv 1) Zb)) (pv 0) (Zo _)))))),?_⟩
 walk_at "rd"
 have eL:(T'.map V.int).length=T'.length:=Yl ..
 refine⟨true,.inl ⟨_,.tup ht,by with_unfolding_all rfl⟩,ZF (λz=>nomatch z) λ_=>⟨_,.inr (SqT.of ht),ZF (λz=>k2 (λg=>?_) _ (Zg.refl H)) λz=>⟨_,.inr (SqT.of ht),by omega,by rw[eL];omega,?_⟩⟩⟩
 ·rw[eL]at z;have:=g.1;omega
 rw[eL]at z⊢
 have en:((T'.length:Nat):Int).toNat=T'.length:=by omega
 rw[en]
 refine comp_map (n:=T'.length) (λq=>V.int (nth (Zfr T') q)) (YE hn (by decide)) (λj Hx s hj=>hj) (λHx s=>Yf _) ?_ ?_
 ·rintro j x Hx Hy hj s ⟨rfl,rfl⟩
  walk_at "rd"
  refine⟨t,T',j,by simp,.inr (SqT.of (s _ _ ht)),hn,hj,λl H9 hl s9 h9=>⟨l,rfl,_,.inl (SqL.of h9),CW.next hj ?_ (s.trans s9)⟩⟩
  rw[ZkG hj,Yl];simp[Zar]
 ·intro l' Hx s hl'
  have ed:(List.range T'.length).map (λq=>V.int (nth (Zfr T') q))=(Zfr T').map V.int:=by
   rw[<-Zf4 T'];exact range_getD _ _ V.int _ rfl
  rw[ed]
  have u:=s.ZT (o:=.lst ((Zfr T').map V.int)) hl'
  refine⟨l',Zfr T',rfl,.inl (SqL.of Zc),by rw[Zf4];exact hn,λt2 es H2 hT2 s2 ht2=>⟨t2,rfl,_,ZjN (n:=2) Zf0 _ _ es T' (Zc0 (SqT.of ht2)) (Zc0 (SqT.of ((u.trans s2) _ _ ht))),?_⟩⟩
  by_cases g:es=T'
  ·rw[YC g];exact k1 ⟨by omega,_,g▸hT2⟩ _ (u.trans s2)
  ·rw[YJ g];exact k2 (λgg=>g (hT2.unique ((Znm T').mp gg.2))) _ (u.trans s2)
theorem Zj7 {f:Addr}{fd:FuncData} (F:Fun K "need_tree" "need_tree" ZaV f fd) (ZgO:Callee P w K mg base "is_tree" 3 ["tree"] (Zfu K mg)) (T:Txt K mg):FnOk P w K mg base (CXE P w) 4 f fd ["tree"] (Zdt K mg):=by
 refine F.okX Zj2 (λvs H Q E h=>?_) (λcdv A outer s H vs Q E hr h=>?_)
 ·obtain⟨t,T,rfl,_⟩:=h;rfl
 obtain⟨t,T',rfl,ht,hn,k1,k2⟩:=h
 refine⟨_,(Zf (ZO (Zej (Zdd (Zi ZgO (hr.mono (by decide)) rfl Zx (Za (pv 0) Zb)))) (Zf (Zkx rfl rfl T.c_NoTree T.x_NoTree (Za (Zi8 (ZfZ (by decide) (ZlC (Zh (Zk (K:=K) rfl) rfl T.b_len Yq (Za (pv 0) Zb)) (ZfZ (by decide) Zo2)))) Zb) Zmz)) ZE)),?_⟩
 walk_at "rd"
 exact⟨t,T',rfl,ht,hn,λg H1 s1=>⟨true,rfl,ZF (λz=>nomatch z) λ_=>k1 g _ s1⟩,λg H1 s1=>⟨false,rfl,ZF (λ_=>⟨_,.inr (SqT.of (s1 _ _ ht)),by omega,by rw[Yl];omega,λy=>⟨by decide,k2 g _ s1⟩⟩) λz=>absurd rfl z⟩⟩
theorem Zl8 {a:Addr}{L:List Int}{p:Nat}{H1:Hp}{Q:VK} (ha:H1 a=some (.lst (L.map V.int))) (hn:L.length<=1000)
  (hk:∀l H' (xs:List V),Zg H1 H'->xs.length=(L.filter λo=>decide ((p:Int)<o)).length->H' l=none->Q (.ref l) (upd H' l (.lst xs))) :
  Zkz (Itl K a) (Zfe 0) (Zkq (tOp (rI0 λi j=>V.bl (decide (j<i))) (Zlr 0) (Zlr 1))) (Zlr 0) [none,some (V.int (p:Int))] Q H1:=by
 refine Zc2 (n:=L.length) (λi=>decide ((p:Int)<L.getD i 0)) (λi=>V.int (L.getD i 0)) (YE hn (by decide)) (λi Hx s hi=>⟨_,_,SqL.of (s _ _ ha),Yh (by simpa using hi)⟩) (λHx s=>⟨_,SqL.of (s _ _ ha),by simp⟩) ?_ ?_
 ·rintro i x Hx Hy hi s ⟨rfl,hx⟩
  have ex:=hx _ (SqL.of (s _ _ ha))
  rw[YH,Yh hi]at ex
  cases ex
  have eg:L.getD i 0=L[i]:=by simp[Yp,hi]
  walk_at "rd"
  exact ZF (λz=>CF.take hi (by rw[eg];exact YC z) (by rw[eg]) s) (λz=>CF.skip hi (by rw[eg];exact YJ z) s)
 ·intro l H' s hl
  refine hk l H' _ s ?_ hl
  rw[Yl]
  have:L=(List.range L.length).map λi=>L.getD i 0:=by
   refine List.ext_getElem (by simp) λj h1 h2=>?_
   simp[Yp,h1]
  conv=>rhs;rw[this,List.filter_map,Yl]
  rfl
theorem ZhW {f:Addr}{fd:FuncData} (F:Fun K "flat_number" "flat_number" Zal f fd) (ZP:Callee P w K mg base "way_up" 1 ["tree","place"] (Za0 K mg)) (T:Txt K mg):FnOk P w K mg base (CXE P w) 2 f fd ["tree","place"] (Zb9 K mg):=by
 refine F.okX ZhU (λvs H Q E h=>?_) (λcdv A outer s H vs Q E hr h=>?_)
 ·obtain⟨t,T,p,rfl,_⟩:=h;rfl
 obtain⟨t,T',p,rfl,ht,hn,hp,k1⟩:=h
 refine⟨_,(Zf (Zt (Zh (Zk (K:=K) rfl) rfl T.b_len Yq (Za (Zaj ["elder","place"] [none,some 1] rfl rfl rfl (Zdh (Zi ZP (hr.mono (by decide)) rfl Zx (Za (pv 0) (Za (pv 1) Zb)))) (λ_ _ _ _ _=>(Zr (i:=0) (show(["elder","place"]:List Str).Nodup from by decide +kernel) rfl (Or.inl rfl))) (λ_ _ _ _ _=>ZcZ (Zn Zd6 (pv 0) (pv 1) (Zo _))) (λ_ _ _ _ _=>(pv 0)) Zy) Zb)))),?_⟩
 walk_at "rd"
 refine⟨t,T',p,rfl,.inr (SqT.of ht),hn,hp,λw H1 hw s1 h1=>⟨w,rfl,⟨_,SqL.of h1⟩,Zl8 h1 (by simp only[Zar,Yl];exact Yn (Zer _ _ _) hn) λl H2 xs s2 hx hl=>⟨l,rfl,xs,.inl (SqL.of Zc),?_⟩⟩⟩
 have e:(xs.length:Nat)=Za8 T' p:=by
  rw[hx,Zet,List.filter_map,Yl]
  unfold Za8
  refine Zc3 λo ho=>?_
  rw[Bool.eq_iff_iff]
  simp
 rw[e]
 exact k1 _ ((s1.trans s2).ZT hl)
theorem ZkZ {f:Addr}{fd:FuncData} (F:Fun K "flattest" "flattest" Zbe f fd) (ZeA:Callee P w K mg base "need_tree" 4 ["tree"] (Zdt K mg)) (ZcJ:Callee P w K mg base "flat_number" 2 ["tree","place"] (Zb9 K mg)) (T:Txt K mg):FnOk P w K mg base (CXE P w) 5 f fd ["tree"] (Za1 K mg):=by
 refine F.okX ZkW (λvs H Q E h=>?_) (λcdv A outer s H vs Q E hr h=>?_)
 ·obtain⟨t,T,rfl,_⟩:=h;rfl
 obtain⟨t,T',rfl,ht,hn,k1,k2⟩:=h
 refine⟨_,(Zd (ZaM (Zi ZeA (hr.mono (by decide)) rfl ZaO (Za (pv 0) Zb)))
   (Zf (Zt (Z9 (ZaT (K:=K) rfl) rfl T.b_tuple Zau (Za (Zaj ["place","tree"] [none,some 0] rfl rfl rfl (ZL rfl T.b_range (Za (Zh (Zk (K:=K) rfl) rfl T.b_len Yq (Za (pv 0) Zb)) Zb)) (λ_ _ _ _ _=>(Zr (i:=0) (show(["place","tree"]:List Str).Nodup from by decide +kernel) rfl (Or.inl rfl))) (λ_ _ _ _ _=>Zaa) (λ_ _ _ _ _=>(Zi ZcJ (hr.mono (by decide)) rfl Zx (Za (pv 1) (Za (pv 0) Zb)))) Zy) Zb))))),?_⟩
 walk_at "rd"
 have eL:(T'.map V.int).length=T'.length:=Yl ..
 refine⟨t,T',rfl,ht,hn,λg H1 s1=>⟨_,.inr (SqT.of (s1 _ _ ht)),by omega,by rw[eL];omega,?_⟩,λg H1 s1=>k2 g _ s1⟩
 have en:(((T'.map V.int).length:Nat):Int).toNat=T'.length:=by rw[eL];omega
 rw[en]
 refine comp_map (n:=T'.length) (λq=>V.int (Za8 T' q:Nat)) (YE hn (by decide)) (λj Hx s hj=>hj) (λHx s=>Yf _) ?_ ?_
 ·rintro j x Hx Hy hj s ⟨rfl,rfl⟩
  walk_at "rd"
  exact⟨t,T',j,by simp,(s1.trans s) _ _ ht,hn,hj,λH9 s9=>CW.next hj rfl (s.trans s9)⟩
 ·intro l' Hx s hl'
  have ed:(List.range T'.length).map (λq=>V.int (Za8 T' q:Nat))=(Zl T').map V.int:=by simp[Zl]
  rw[ed]
  exact⟨l',rfl,_,.inl ⟨SqL.of Zc,λt' ht'=>k1 g t' _ (((s1.trans s).ZT hl').ZT ht') Zc⟩⟩
theorem ZhX {f:Addr}{fd:FuncData} (F:Fun K "_law_either" "_law_either" Zam f fd) (Zm:Callee P w K mg base "_law_take" 1 ["pot","many"] (Zag K mg)) (T:Txt K mg):FnOk P w K mg base (CXE P w) 2 f fd ["pot","some"] (Zca K mg):=by
 refine F.okX ZhV (λvs H Q E h=>?_) (λcdv A outer s H vs Q E hr h=>?_)
 ·obtain⟨p,r,ns,rfl,_⟩:=h;rfl
 obtain⟨p,r,ns,rfl,hP,nrp,hr1,hn,k1⟩:=h
 refine⟨_,(Zf (Zt (Zw Za6 (Zbx (Za (Z9 (Zfp (K:=K) rfl) rfl T.b_list ZjH (Za (pv 1) Zb)) (Za (Z9 (ZaT (K:=K) rfl) rfl T.b_tuple Zau (Za (pv 1) Zb)) Zb))) (Zi Zm (hr.mono (by decide)) rfl Zx (Za (pv 0) (Za Ze Zb))) (λ_ _=>rfl)))),?_⟩
 walk_at "rd"
 refine⟨_,.inl (SqL.of hr1),λl hl=>?_⟩
 have g1:=(Zg.refl H).upd (o:=.lst (ns.map V.int)) hl
 refine⟨_,.inl ⟨SqL.of (g1 _ _ hr1),λl2 hl2=>⟨by decide,λc hc=>?_⟩⟩⟩
 have g2:=(Zg.refl _).upd (o:=.tup (ns.map V.int)) hl2
 have g3:=(Zg.refl _).upd (o:=.tup [V.ref l,V.ref l2]) hc
 have gg:=(g1.trans g2).trans g3
 have hl3:=(g2.trans g3) _ _ (Zc (H:=H) (a:=l) (o:=.lst (ns.map V.int)))
 have hl23:=g3 _ _ (Zc (a:=l2) (o:=.tup (ns.map V.int)) (H:=upd H l (.lst (ns.map V.int))))
 have nlp:l≠p:=hP.ne hl
 have nl2p:l2≠p:=(hP.same g1).ne hl2
 have ncp:c≠p:=(hP.same (g1.trans g2)).ne hc
 refine⟨p,_,rfl,by decide,by decide,hP.same gg,λd H2 d0 d1 P2 e2=>⟨_,d,rfl,SqT.of (e2 _ _ ncp Zc),?_⟩⟩
 have ex:=(Zg.refl H).Zbv.same gg |>.trans e2
 rcases(by omega:d=0\/d=1)with rfl|rfl
 ·exact⟨_,rfl,k1 l H2 hl (.inl (e2 _ _ nlp hl3)) P2 ex⟩
 ·exact⟨_,rfl,k1 l2 H2 (g1.free hl2) (.inr (e2 _ _ nl2p hl23)) P2 ex⟩
theorem Zez {ns:List Int}{i:Nat} (h:i<ns.length):(ns.map V.int)[i]?=some (V.int (nth ns i)):=by
 unfold nth
 rw[YH,Yh h,Yp,Yh h];rfl
theorem Ze7 (F ns:List Int):(hgt F ns).length=F.length:=by unfold hgt;simp
theorem Zaq {F ns:List Int}{i:Nat} (h:i<F.length):nth (hgt F ns) i=nth ns i-nth F i:=by
 show List.getD ((List.range F.length).map λi=>nth ns i-nth F i) i 0=_
 rw[Yp,YH,List.getElem?_range h];rfl
theorem Zk0 {K:PySem.W.Frag}{H:Hp}{p q:Addr}{a b:Str} (hp:H p=some (.tup [.str a])) (hq:H q=some (.tup [.str b])):EqD K H 3 (.ref p) (.ref q) (a==b):=by
 have:=EqD.tup (K:=K) (H:=H) (n:=2) (λj=>a==b) (SqT.of hp) (SqT.of hq) λj x y z1 z2=>by
  match j,z1,z2 with
  |0,z1,z2=>cases z1;cases z2;exact EqD.flat rfl rfl
 simpa[YT]using this
theorem ZrD {ns:List Int}{i:Nat} (h:i<ns.length):nth ns i∈ns:=by
 unfold nth
 rw[Yp,Yh h];exact YR h
theorem ZpM {T ls ds:List Int} (hG:ZI T) (hl:ds.length=T.length):ZmY T ls ds↔∀p,p<T.length->nth (hgt (Zl T) ds) p=(if nth T p=-1 then nth (hgt (Zl T) ls) p else max (nth (hgt (Zl T) ls) p) (nth (hgt (Zl T) ds) (nth T p).toNat)):=by
 obtain⟨h40,nsT,hT⟩:=hG
 have eT:=hT.1
 have eF:(Zl T).length=T.length:=Zak T
 constructor
 ·intro h p hp
  obtain⟨⟨o,ho,e1⟩,b1⟩:=h.2 p hp
  have bp:=b1 p Yx
  rw[Zaq (by omega),Zaq (by omega)]
  rcases ZS hT (p:=p) (by omega)with e|⟨q,e,hq,_,_⟩
  ·rw[Yd e]
   rw[Zf9 e]at ho
   have:o=p:=by simpa using ho
   subst this
   omega
  ·rw[Yb (by omega),e,show((q:Nat):Int).toNat=q by omega,Zaq (by omega)]
   have hw:=Zb8 hT (p:=p) (by omega) e
   obtain⟨⟨o',ho',e2⟩,b2⟩:=h.2 q (by omega)
   have c1:=b1 o' (by rw[hw];exact Yz _ ho')
   rcases Ym.mp ho with rfl|ho
   ·omega
   ·rw[hw]at ho
    have c2:=b2 o ho
    omega
 ·intro h
  refine⟨hl,?_⟩
  have key:∀d p,p<T.length->dep (nth nsT) nsT.length p=d->(∃o∈p::way T p,nth ds p=nth ls o+nth (Zl T) p-nth (Zl T) o)/\∀o∈p::way T p,nth ls o+nth (Zl T) p-nth (Zl T) o<=nth ds p:=by
   intro d
   induction d with
   |zero =>
    intro p hp hd
    have h1:=h p hp
    rw[Zaq (by omega),Zaq (by omega)]at h1
    rcases ZS hT (p:=p) (by omega)with e|⟨q,e,hq,_,e5⟩
    ·rw[Yd e]at h1
     rw[Zf9 e]
     refine⟨⟨p,Yx,by omega⟩,λo ho=>?_⟩
     have:o=p:=by simpa using ho
     subst this;omega
    ·omega
   |succ d ih =>
    intro p hp hd
    have h1:=h p hp
    rw[Zaq (by omega),Zaq (by omega)]at h1
    rcases ZS hT (p:=p) (by omega)with e|⟨q,e,hq,_,e5⟩
    ·rw[Yd e]at h1
     rw[Zf9 e]
     refine⟨⟨p,Yx,by omega⟩,λo ho=>?_⟩
     have:o=p:=by simpa using ho
     subst this;omega
    ·rw[Yb (by omega),e,show((q:Nat):Int).toNat=q by omega,Zaq (by omega)]at h1
     obtain⟨⟨o,ho,e2⟩,b2⟩:=ih q (by omega) (by omega)
     rw[Zb8 hT (p:=p) (by omega) e]
     constructor
     ·by_cases c:nth ls p-nth (Zl T) p<nth ds q-nth (Zl T) q
      ·exact⟨o,Yz _ ho,by omega⟩
      ·exact⟨p,Yx,by omega⟩
     ·intro o' ho'
      rcases Ym.mp ho' with rfl|ho'
      ·omega
      ·have:=b2 o' ho'
       omega
  exact λp hp=>key _ p hp rfl
theorem atI_hd {x:V}{os:List V}:atI (x::os) 0=some x:=by
 have:=ZhE (xs:=x::os) (j:=0) (show(0:Int)=((0:Nat):Int)from rfl) (by simp)
 simpa using this
theorem Zk1 (F us:List Int):(ZgH F us).length=F.length:=by unfold ZgH;simp
theorem ZpN {F us:List Int}{i:Nat} (h:i<F.length):nth (ZgH F us) i=nth F i+nth us i:=by
 show List.getD ((List.range F.length).map λi=>nth F i+nth us i) i 0=_
 rw[Yp,YH,List.getElem?_range h];rfl
noncomputable def ZgK (T hs qs us:List Int) (i:Nat):Prop:=us.length=T.length/\∀p:Nat,p<T.length->nth us p=if (p:Int)∈qs.take i/\nth T p≠-1 then max (nth hs p) (nth us (nth T p).toNat)else nth hs p
theorem ZgL {qs:List Int}{i:Nat}{x y:Int} (h:qs[i]?=some y):x∈qs.take (i+1)↔x∈qs.take i\/x=y:=by
 rw[Y7,h];simp
theorem ZpO {us:List Int}{j:Nat}{z:Int} (h:j<us.length):nth (us.set j z) j=z:=by
 unfold nth
 rw[Yp,List.getElem?_set_self h];rfl
theorem ZhY {us:List Int}{j p:Nat}{z:Int} (h:p≠j):nth (us.set j z) p=nth us p:=by
 unfold nth
 rw[Yp,Yp,List.getElem?_set_ne (Ne.symm h)]
theorem Zjm {ns T:List Int} (hT:ZQ ns T) {p q:Nat} (hp:p<ns.length) (h:nth T p=q):dpI T (p:Int)=dpI T (q:Int)+1:=by
 unfold dpI
 simp only[Y6,Zet,Yl]
 rw[Zb8 hT hp h,YM];omega
theorem Zk2 {ns T qs:List Int} (hT:ZQ ns T) (hpm:qs.Perm (nats (T.length:Int))) (hpw:qs.Pairwise λx y=>dpI T x<=dpI T y) {p q i:Nat} (hp:p<T.length) (hq:q<T.length) (h:nth T p=q):(qs[i]?=some (p:Int)->(q:Int)∈qs.take i)/\((p:Int)∈qs.take i->(q:Int)∈qs.take i):=by
 have eT:=hT.1
 have dp:=Zjm hT (p:=p) (by omega) h
 have mq:(q:Int)∈qs:=hpm.mem_iff.mpr (YQ.mpr ⟨q,YF.mpr (by omega),rfl⟩)
 obtain⟨m,hm,em⟩:=Jb mq
 have key:∀k,qs[k]?=some (p:Int)->m<k:=λk e=>by
  obtain⟨hk,ek⟩:=Yw.mp e
  refine Nat.lt_of_not_le λz=>?_
  rcases Nat.lt_or_eq_of_le z with z|z
  ·have:=List.pairwise_iff_getElem.mp hpw k m hk hm z
   rw[ek,em]at this;omega
  ·subst z
   rw[ek]at em
   rw[em]at dp;omega
 constructor
 ·intro e
  have:=key i e
  rw[List.mem_take_iff_getElem]
  exact⟨m,by omega,em⟩
 ·intro e
  obtain⟨k,hk,ek⟩:=List.mem_take_iff_getElem.mp e
  have:=key k (Yw.mpr ⟨by omega,ek⟩)
  rw[List.mem_take_iff_getElem]
  exact⟨m,by omega,em⟩
theorem ZnI {T hs qs us:List Int}{i j:Nat} (h:ZgK T hs qs us i) (e:qs[i]?=some (j:Int)) (ht:nth T j=-1):ZgK T hs qs us (i+1):=by
 refine⟨h.1,λp hp=>?_⟩
 rw[h.2 p hp]
 by_cases c:p=j
 ·subst c
  rw[Yb (λz=>z.2 ht),Yb (λz=>z.2 ht)]
 ·have:(p:Int)∈qs.take (i+1)↔(p:Int)∈qs.take i:=by rw[ZgL e];exact⟨λz=>z.elim id λy=>absurd (by omega) c,.inl⟩
  simp only[this]
theorem Zl9 (n:Int):(nats n).Nodup:=by
 unfold nats
 exact List.Pairwise.map _ (λa b (h:a≠b)=>λ(e:(a:Int)=(b:Int))=>h (by omega)) List.nodup_range
theorem ZnJ {ns T hs qs us:List Int}{i j k:Nat} (hT:ZQ ns T) (hpm:qs.Perm (nats (T.length:Int))) (hpw:qs.Pairwise λx y=>dpI T x<=dpI T y) (h:ZgK T hs qs us i) (e:qs[i]?=some (j:Int)) (hj:j<T.length) (hk:k<T.length) (ht:nth T j=k):ZgK T hs qs (us.set j (max (nth us j) (nth us k))) (i+1):=by
 have eT:=hT.1
 have hkj:k≠j:=λz=>by
  have:=Zjm hT (p:=j) (by omega) ht
  rw[z]at this;omega
 have nj:(j:Int)∉qs.take i:=λz=>by
  have nd:qs.Nodup:=hpm.nodup_iff.mpr (Zl9 _)
  obtain⟨m,hm,em⟩:=List.mem_take_iff_getElem.mp z
  obtain⟨hi,ei⟩:=Yw.mp e
  have:=(List.getElem_inj nd (h₀:=by omega) (h₁:=hi)).mp (em.trans ei.symm)
  omega
 have uj:=h.2 j hj
 rw[Yb (λz=>nj z.1)]at uj
 refine⟨by rw[List.length_set];exact h.1,λp hp=>?_⟩
 by_cases c:p=j
 ·subst c
  rw[ZpO (by rw[h.1];exact hp),Yd ⟨(ZgL e).mpr (.inr rfl),by omega⟩,ht,show((k:Nat):Int).toNat=k by omega,ZhY hkj,uj]
 ·rw[ZhY c,h.2 p hp]
  have:(p:Int)∈qs.take (i+1)↔(p:Int)∈qs.take i:=by rw[ZgL e];exact⟨λz=>z.elim id λy=>absurd (by omega) c,.inl⟩
  simp only[this]
  by_cases y:(p:Int)∈qs.take i/\nth T p≠-1
  ·rw[Yd y,Yd y]
   rcases ZS hT (p:=p) (by omega)with z|⟨q,ez,hq,_,_⟩
   ·exact absurd z y.2
   ·rw[ez,show((q:Nat):Int).toNat=q by omega,ZhY (λz=>?_)]
    subst z
    exact nj ((Zk2 hT hpm hpw hp (by omega) ez).2 y.1)
  ·rw[Yb y,Yb y]
theorem ZpP {T hs qs us:List Int} (hpm:qs.Perm (nats (T.length:Int))) (h:ZgK T hs qs us qs.length):Zl3 T hs us:=by
 refine⟨h.1,λp hp=>?_⟩
 rw[h.2 p hp,List.take_length]
 have mq:(p:Int)∈qs:=hpm.mem_iff.mpr (YQ.mpr ⟨p,YF.mpr (by omega),rfl⟩)
 by_cases c:nth T p=-1
 ·rw[Yd c,Yb (λz=>z.2 c)]
 ·rw[Yb c,Yd ⟨mq,c⟩]
theorem ZpQ {T ls us:List Int} (hG:ZI T) (hl:ls.length=T.length) (h:Zl3 T (hgt (Zl T) ls) us):ZmY T ls (ZgH (Zl T) us)/\∀p,p<T.length->nth (ZgH (Zl T) us) p=nth (Zl T) p+nth us p:=by
 have eF:(Zl T).length=T.length:=Zak T
 have e2:∀p,p<T.length->nth (ZgH (Zl T) us) p=nth (Zl T) p+nth us p:=λp hp=>ZpN (by omega)
 refine⟨(ZpM hG (by rw[Zk1];exact eF)).mpr λp hp=>?_,e2⟩
 have key:∀q,q<T.length->nth (hgt (Zl T) (ZgH (Zl T) us)) q=nth us q:=λq hq=>by rw[Zaq (by omega),e2 q hq];omega
 rw[key p hp,h.2 p hp]
 obtain⟨_,nsT,hT⟩:=hG
 have eT:=hT.1
 rcases ZS hT (p:=p) (by omega)with z|⟨q,ez,hq,_,_⟩
 ·rw[Yd z,Yd z]
 ·rw[Yb (by omega),Yb (by omega),ez,show((q:Nat):Int).toNat=q by omega,key q (by omega)]
theorem Zj8 {m j2:Nat}{r:List Nat}{P:Nat->Bool} (h:(List.range m).filter P=j2::r):j2<m/\P j2=true/\∀j,j<j2->P j=false:=by
 have h2:j2∈(List.range m).filter P:=by rw[h];exact Yx
 obtain⟨m1,m2⟩:=YU.mp h2
 refine⟨YF.mp m1,m2,λj hj=>?_⟩
 cases hp:P j with
 |false=>rfl
 |true =>
  have hin:j∈(List.range m).filter P:=YU.mpr ⟨YF.mpr (by have:=YF.mp m1;omega),hp⟩
  have hs:((List.range m).filter P).Pairwise (· < ·):=List.Pairwise.filter _ List.pairwise_lt_range
  rw[h]at hin hs
  rcases Ym.mp hin with e|hin
  ·omega
  ·have:=(Y1.mp hs).1 j hin
   omega
theorem ZhS.same {H H':Hp}{v:V}{pr:Option (Int×Int)} (h:ZhS H v pr) (s:Zg H H'):ZhS H' v pr:=by
 cases pr with
 |none=>exact h
 |some z=>obtain⟨a,e,h⟩:=h;exact⟨a,e,s _ _ h⟩
noncomputable instance (T:List Int) (a b:Int):Decidable (overN T a b):=by unfold overN;exact inferInstance
theorem ZhZ {T:List Int}{p:Nat}{a:Int} (h:a∈Zar T p):0<=a/\a<T.length:=by
 have key:∀k x,∀o∈Z7 T k x,o<T.length:=by
  intro k
  induction k with
  |zero=>intro x o ho;cases ho
  |succ k ih =>
   intro x o ho
   rw[Z7]at ho
   split at ho
   ·rcases Ym.mp ho with z|z
    ·omega
    ·exact ih _ o z
   ·cases ho
 obtain⟨o,ho,rfl⟩:=YQ.mp h
 have:=key _ _ o ho
 omega
theorem Zk3 {T:List Int}{p:Nat}:(Zar T p).length<=T.length:=by
 unfold Zar
 rw[Yl]
 exact Zer _ _ _
noncomputable def Zdw (T hs:List Int) (b:Nat):List (List Int):=((Zar T b).filter λa=>decide (nth hs b<nth hs a.toNat)).map λa=>[a,(b:Int)]
noncomputable def ZcI (T hs:List Int) (i j:Nat):List (List Int):=(List.range i).flatMap (Zdw T hs)++(((Zar T i).take j).filter λa=>decide (nth hs i<nth hs a.toNat)).map λa=>[a,(i:Int)]
theorem pairs_len (T hs:List Int):∀i,((List.range i).flatMap (Zdw T hs)).length<=i*T.length
 |0=>by simp
 |i+1=>by
  have:=pairs_len T hs i
  have h2:(Zdw T hs i).length<=T.length:=by
   unfold Zdw
   rw[Yl]
   exact Yn (Ja _ _) Zk3
  rw[YT,List.flatMap_append,YL,Nat.add_mul]
  simp only[List.flatMap_cons,List.flatMap_nil,List.append_nil,Nat.one_mul]
  omega
theorem Zjn {T hs r:List Int}{i:Nat} (h:r∈(List.range i).flatMap (Zdw T hs)):∃(a:Int) (b:Nat),r=[a,(b:Int)]/\b<i/\a∈Zar T b/\nth hs b<nth hs a.toNat:=by
 obtain⟨b,hb,hr⟩:=List.mem_flatMap.mp h
 obtain⟨a,ha,rfl⟩:=YQ.mp hr
 have:=YU.mp ha
 exact⟨a,b,rfl,YF.mp hb,this.1,by simpa using this.2⟩
theorem Zh0 {T hs:List Int}{i j:Nat} (hj:j<(Zar T i).length):ZcI T hs i (j+1)=if nth hs i<nth hs (Zar T i)[j].toNat then ZcI T hs i j++[[(Zar T i)[j],(i:Int)]]else ZcI T hs i j:=by
 unfold ZcI
 rw[Y7,Yh hj,List.filter_append,YX]
 by_cases c:nth hs i<nth hs (Zar T i)[j].toNat
 ·rw[Yd c];simp[c]
 ·rw[Yb c];simp[c]
theorem ZnK {T hs:List Int}{i:Nat}:ZcI T hs i (Zar T i).length=(List.range (i+1)).flatMap (Zdw T hs):=by
 unfold ZcI
 rw[List.take_length,YT,List.flatMap_append]
 simp[Zdw]
theorem Zma {T hs:List Int}{i j:Nat}:(ZcI T hs i j).length<=(i+1)*T.length:=by
 unfold ZcI
 have:=pairs_len T hs i
 rw[YL,Yl,Nat.add_mul,Nat.one_mul]
 have h3:((((Zar T i).take j).filter λa=>decide (nth hs i<nth hs a.toNat))).length<=T.length:=Yn (Ja _ _) (Yn (by rw[YY];exact Nat.min_le_right _ _) Zk3)
 omega
theorem ZpR {i n:Nat} (h1:i<=41) (h2:n<=40):i*n<=2000:=Yn (Nat.mul_le_mul h1 h2) (by decide)
theorem Zhl {f:Addr}{fd:FuncData} (F:Fun K "higher_pairs" "higher_pairs" Zab f fd) (ZP:Callee P w K mg base "way_up" 1 ["tree","place"] (Za0 K mg)) (T:Txt K mg):FnOk P w K mg base (CXE P w) 2 f fd ["tree","heights"] (ZbB K mg):=by
 refine F.okX Zd8 (λvs H Q E h=>?_) (λcdv A outer s H vs Q E hr h=>?_)
 ·obtain⟨t,h,T,hs,rfl,_⟩:=h;rfl
 obtain⟨t,h,T',hs,rfl,ht,hh,hn,hl,k1⟩:=h
 refine⟨_,(Zd (ZpG (i:=2) ["b","a","heights","tree"] [none,none,some 1,some 0] Zd8.nd rfl (Or.inl rfl) rfl rfl rfl (ZL rfl T.b_range (Za (Zh (Zk (K:=K) rfl) rfl T.b_len Yq (Za (pv 0) Zb)) Zb)) (λ_ _ _ _ _=>(Zr (i:=0) (show(["b","a","heights","tree"]:List Str).Nodup from by decide +kernel) rfl (Or.inl rfl))) (λ_ _ _ _ _=>Zaa) (λ_ _ _ _ _=>(Zpk (K:=K) rfl (Zi ZP (hr.mono (by decide)) rfl Zx (Za (pv 3) (Za (pv 0) Zb))))) (λ_ _ _ _ _=>(Zr (i:=1) (show(["b","a","heights","tree"]:List Str).Nodup from by decide +kernel) rfl (Or.inl rfl))) (λ_ _ _ _ _=>ZcZ (Zn Zd6 (Zw (r:=Zku K) Zz (pv 2) (pv 1) (λ_ _=>rfl)) (Zw (r:=Zku K) Zz (pv 2) (pv 0) (λ_ _=>rfl)) (Zo _))) (λ_ _ _ _ _=>(Zbx (Za (pv 1) (Za (pv 0) Zb)))) Zy Zy)
   (Zf (Zt (Zh (ZiH (K:=K) rfl) rfl T.b_sorted Zjg (Za (pv 2) Zb))))),?_⟩
 walk_at "rd"
 have eL:(T'.map V.int).length=T'.length:=Yl ..
 refine⟨_,.inr (SqT.of ht),by omega,by rw[eL];omega,?_⟩
 rw[eL,Y6]
 refine Zl0 T'.length (λi=>(List.range i).flatMap (Zdw T' hs)) rfl (λi hi=>Yn (pairs_len T' hs i) (Yn (ZpR (by omega) hn) (by decide))) (λi Hx s hi=>hi) (λHx s=>Yf _) ?_ ?_
 ·rintro i x acc Hx Hy hi tv s ⟨rfl,rfl⟩
  have ei:((0:Int)+(i:Int))=(i:Int):=by omega
  rw[ei]
  walk_at "rd"
  refine⟨t,T',i,rfl,.inr (SqT.of (s _ _ ht)),by omega,hi,λw H2 zw s2 hw=>⟨w,rfl,⟨_,SqL.of hw⟩,?_⟩⟩
  refine ZpH (Zar T' i).length (ZcI T' hs i) (by unfold ZcI;simpa using tv.same s2) (λj hj=>Yn Zma (Yn (ZpR (by omega) hn) (by decide))) (λj Hz sz hj=>⟨_,_,SqL.of (sz _ _ hw),Yh (by simpa using hj)⟩) (λHz sz=>⟨_,SqL.of (sz _ _ hw),by simp⟩) ?_ ?_
  ·rintro j x acc2 H5 H6 hj t5 s5 ⟨rfl,hx⟩
   have ex:=hx _ (SqL.of (s5 _ _ hw))
   rw[YH,Yh hj]at ex
   cases ex
   have hm:=ZhZ (YR hj)
   have hh5:H6 h=some (.lst (hs.map V.int)):=(s.trans (s2.trans s5)) _ _ hh
   have ea:((Zar T' i)[j]:Int)=(((Zar T' i)[j].toNat:Nat):Int):=by omega
   walk_at "rd"
   refine⟨_,SqL.of hh5,_,(congrArg (atI _) ea).trans (ZN (by omega)),_,SqL.of hh5,_,ZN (by omega),?_⟩
   refine⟨_,rfl,_,rfl,ZF (λc=>⟨by decide,λp hp=>C2W.next hj ?_ (s5.ZT hp)⟩) (λc=>C2W.next hj ?_ s5)⟩
   ·rw[Zh0 hj,Yd c];exact(t5.same ((Zg.refl _).upd hp)).snoc Zc
   ·rw[Zh0 hj,Yb c];exact t5
  ·intro acc2 H5 t5 s5
   rw[ZnK]at t5
   exact C2W.next hi t5 (s.trans (s2.trans s5))
 ·intro l acc H' s' hl' tv
  refine⟨l,rfl,_,tv.at hl',λr hr=>?_,Yn (pairs_len T' hs _) (Yn (ZpR (by omega) hn) (by decide)),λrs' l2 H2 p1 p2 z2 s2 t2=>k1 l2 rs' H2 ((s'.ZT hl').free z2) ((s'.ZT hl').trans s2) t2 ⟨p1,p2⟩⟩
  obtain⟨a,b,rfl,hb,_⟩:=Zjn hr
  exact⟨a,b,rfl,by omega,by omega⟩
noncomputable def vInt:V->Int
 |.int i=>i
 |_=>0
noncomputable def rowOf (H:Hp):V->List Int
 |.ref a=>match H a with
  |some (.tup xs)=>xs.map vInt
  |_=>[]
 |_=>[]
theorem ZpS {H:Hp}{a:Addr}{r:List Int} (h:H a=some (.tup (r.map V.int))):rowOf H (.ref a)=r:=by
 unfold rowOf
 simp only[h,Y2]
 have:(vInt ∘ V.int)=id:=rfl
 rw[this,List.map_id]
theorem Zdx {T hs r:List Int}:r∈ZjZ T hs↔∃(a:Int) (b:Nat),r=[a,(b:Int)]/\b<T.length/\a∈Zar T b/\nth hs b<nth hs a.toNat:=by
 constructor
 ·intro h;exact Zjn (show r∈(List.range T.length).flatMap (Zdw T hs)from h)
 ·rintro⟨a,b,rfl,hb,ha,hd⟩
  exact List.mem_flatMap.mpr ⟨b,YF.mpr hb,YQ.mpr ⟨a,YU.mpr ⟨ha,YC hd⟩,rfl⟩⟩
theorem ZrE {T hs:List Int}{z:Int×Int} (h:IsPair T hs (some z)):(∃b:Nat,z.2=(b:Int)/\b<T.length/\z.1∈Zar T b)/\0<nth hs z.1.toNat-nth hs z.2.toNat/\∀(a:Int) (b:Nat),b<T.length->a∈Zar T b->nth hs a.toNat-nth hs b<=nth hs z.1.toNat-nth hs z.2.toNat:=by
 obtain⟨rs,i,hS,hi,e,hB⟩:=h
 have hm:rs.getD i []∈rs:=by rw[Yp,Yh hi];exact YR hi
 obtain⟨a,b,e2,hb,ha,hd⟩:=Zdx.mp ((List.Perm.mem_iff hS.1).mp hm)
 rw[e]at e2
 simp only[List.cons.injEq,and_true]at e2
 obtain⟨e3,e4⟩:=e2
 have eb:z.2.toNat=b:=by omega
 refine⟨⟨b,e4,hb,e3▸ha⟩,by rw[e3,eb];omega,?_⟩
 intro a' b' hb' ha'
 by_cases c:nth hs b'<nth hs a'.toNat
 ·have:=(List.Perm.mem_iff hS.1).mpr (Zdx.mpr ⟨a',b',rfl,hb',ha',c⟩)
  obtain⟨j,hj,ej⟩:=List.mem_iff_getElem.mp this
  have hb2:=(hB j hj).1
  rw[e,show rs.getD j []=[a',(b':Int)] by rw[Yp,Yh hj];exact ej]at hb2
  simpa[dfK]using hb2
 ·rw[e3,eb];omega
theorem ZiM {f:Addr}{fd:FuncData} (F:Fun K "heights_of" "heights_of" ZaC f fd) (T:Txt K mg):FnOk P w K mg base (CXE P w) 1 f fd ["flat","row"] (Zan K mg):=by
 refine F.okX ZiJ (λvs H Q E h=>?_) (λcdv A outer s H vs Q E hr h=>?_)
 ·obtain⟨f,r,F,ns,rfl,_⟩:=h;rfl
 obtain⟨f,r,Fl,ns,rfl,hf,hr1,hF,hn,k1,k2⟩:=h
 refine⟨_,(Zd (ZO (Zn Zkp (Zh (Zk (K:=K) rfl) rfl T.b_len Yq (Za (pv 1) Zb)) (Zh (Zk (K:=K) rfl) rfl T.b_len Yq (Za (pv 0) Zb)) (Zo _)) (Zf (Zkx rfl rfl T.c_Unlike T.x_Unlike (Za (Zi8 (ZfZ (by decide) (ZlC (Zh (Zk (K:=K) rfl) rfl T.b_len Yq (Za (pv 1) Zb)) (ZfZ (by decide) (ZlC (Zh (Zk (K:=K) rfl) rfl T.b_len Yq (Za (pv 0) Zb)) (ZfZ (by decide) Zo2)))))) Zb) Zmz)) ZE)
   (Zf (Zt (Zaj ["number","least"] [none,none] rfl rfl rfl (ZjR (K:=K) rfl rfl T.b_zip (Za (pv 1) (Za (pv 0) Zb))) (λ_ _ _ _ _=>(ZjJ (K:=K) (n:=2) rfl rfl (ZY (Zr (i:=0) (show(["number","least"]:List Str).Nodup from by decide +kernel) rfl (Or.inl rfl)) (ZY (Zr (i:=1) (show(["number","least"]:List Str).Nodup from by decide +kernel) rfl (Or.inl rfl)) Zcn)))) (λ_ _ _ _ _=>Zaa) (λ_ _ _ _ _=>(Zs Zat (pv 0) (pv 1))) (ZhC (ZbW Zy (ZbW Zy ZhB))))))),?_⟩
 walk_at "rd"
 have ef:(Fl.map V.int).length=Fl.length:=Yl ..
 have en:(ns.map V.int).length=ns.length:=Yl ..
 refine⟨_,hr1,_,.inr (SqT.of hf),ZF (λc=>?_) (λc=>?_)⟩
 ·exact⟨_,hr1,by omega,Int.lt_trans (show _<(2000:Int) by omega) (by decide),_,.inr (SqT.of hf),by omega,Int.lt_trans (show _<(2000:Int) by omega) (by decide),λy=>⟨by decide,k2 (λz=>c (by omega)) H (Zg.refl H)⟩⟩
 have e:ns.length=Fl.length:=by
  have:=Decidable.not_not.mp c
  omega
 obtain⟨tg,hB⟩:=SqB.of hr1
 obtain⟨tu,hB2⟩:=SqB.of (K:=K) (H:=H) (a:=f) (xs:=Fl.map V.int) (.inr (SqT.of hf))
 refine⟨tg,tu,_,hB,_,hB2,?_⟩
 refine comp_map (n:=Fl.length) (λi=>V.int (nth ns i-nth Fl i)) (YE hF (by decide)) (λi Hx s hi=>⟨_,_,_,_,s.Zed hB,s.Zed hB2,Zez (by omega),Zez hi⟩) (λHx s=>⟨_,_,s.Zed hB,s.Zed hB2,.inl (by omega)⟩) ?_ ?_
 ·rintro i x Hx Hy hi s ⟨q,x,y,hq,rfl,rfl,hx,hy⟩
  have ex:=hx _ (s.Zed hB)
  have ey:=hy _ (s.Zed hB2)
  rw[Zez (by omega)]at ex
  rw[Zez hi]at ey
  cases ex;cases ey
  walk_at "rd"
  exact⟨_,SqT.of Zc,rfl,_,_,rfl,_,_,rfl,rfl,_,rfl,_,rfl,CW.next hi rfl (s.ZT hq)⟩
 ·intro l Hx s hl
  have:=k1 e l (upd Hx l (.lst ((hgt Fl ns).map V.int))) (s.free hl) (s.ZT hl) Zc
  unfold hgt at this
  rw[Y2]at this
  exact this
theorem Zmb {f:Addr}{fd:FuncData} (F:Fun K "is_over" "is_over" Zb0 f fd) (ZP:Callee P w K mg base "way_up" 1 ["tree","place"] (Za0 K mg)) (T:Txt K mg):FnOk P w K mg base (CXE P w) 2 f fd ["tree","a","b"] (Zdu K mg):=by
 refine F.okX Zl5 (λvs H Q E h=>?_) (λcdv A outer s H vs Q E hr h=>?_)
 ·obtain⟨t,T,a,b,rfl,_⟩:=h;rfl
 obtain⟨t,T',a,b,rfl,ht,hn,k1⟩:=h
 refine⟨_,(Zf (Zt (Zdg (Zkr Zi2 Zeo Ze (pv 2) (Zh (Zk (K:=K) rfl) rfl T.b_len Yq (Za (pv 0) Zb))) (Zdf (ZaN (Zpi (K:=K) rfl) (pv 1) (Zi ZP (hr.mono (by decide)) rfl Zx (Za (pv 0) (Za (pv 2) Zb))) (by with_unfolding_all rfl)))))),?_⟩
 walk_at "rd"
 have eT:(T'.map V.int).length=T'.length:=Yl ..
 have no:∀H',Zg H H'->¬ (0<=b/\b<(T'.length:Int)/\a∈Zar T' b.toNat)->Q (.bl false) H':=λH' s c=>by
  have:=k1 H' s
  rw[YJ c]at this;exact this
 refine ZF (λc0=>⟨_,.inr (SqT.of ht),ZF (λc1=>?_) λc1=>no H (Zg.refl H) (λz=>c1 (by omega))⟩) λc0=>no H (Zg.refl H) λz=>c0 z.1
 obtain⟨j,rfl⟩:=YZ c0
 refine⟨t,T',j,rfl,.inr (SqT.of ht),hn,by omega,λw H1 zw s1 hw=>⟨w,rfl,_,.inl (SqL.of hw),rfl,Zjd _,?_⟩⟩
 rw[ZmN]
 have:=k1 H1 s1
 rw[show decide (0<=(j:Int)/\(j:Int)<(T'.length:Int)/\a∈Zar T' (j:Int).toNat)=decide (a∈Zar T' j)from decide_eq_decide.mpr ⟨λz=>by simpa using z.2.2,λz=>⟨by omega,by omega,by simpa using z⟩⟩]at this
 exact this
theorem Zk4 {f:Addr}{fd:FuncData} (F:Fun K "is_clash" "is_clash" Zbf f fd) (Zb3:Callee P w K mg base "is_over" 2 ["tree","a","b"] (Zdu K mg)) (T:Txt K mg):FnOk P w K mg base (CXE P w) 3 f fd ["tree","floors","roofs","a","b"] (Zex K mg):=by
 refine F.okX Zg7 (λvs H Q E h=>?_) (λcdv A outer s H vs Q E hr h=>?_)
 ·obtain⟨t,c,d,T,fl,rf,a,b,rfl,_⟩:=h;rfl
 obtain⟨t,c,d,T',fl,rf,a,b,rfl,ht,hc,hd,hG,l1,l2,k1⟩:=h
 refine⟨_,(Zd (Zp (i:=5) Zg7.nd rfl (Or.inl rfl) (pe_or (Zi Zb3 (hr.mono (by decide)) rfl Zx (Za (pv 0) (Za (pv 3) (Za (pv 4) Zb)))) (Zdf (Zdg (ZaN Za5 (pv 3) (pv 4) (Zo _)) (Zdf (Zkr Zi2 Zeo Ze (pv 3) (Zh (Zk (K:=K) rfl) rfl T.b_len Yq (Za (pv 0) Zb))))))))
   (Zf (Zt (Zdg (pv 5) (Zdf (ZaN Zd6 (Zw Zz (pv 1) (pv 3) (λ_ _=>rfl)) (Zw Zz (pv 2) (pv 4) (λ_ _=>rfl)) (Zo _))))))),?_⟩
 walk_at "rd"
 have eT:(T'.map V.int).length=T'.length:=Yl ..
 obtain⟨hG1,nsT,hT⟩:=hG
 have fin:∀H1,Zg H H1->(0<=b/\b<(T'.length:Int)/\a∈Zar T' b.toNat\/a=b/\0<=a/\a<(T'.length:Int))->∃x,SqL K H1 c x/\∃x_1,atI x a=some x_1/\∃x,SqL K H1 d x/\∃x_2,atI x b=some x_2/\∃i,x_1=V.int i/\∃x,x_2=V.int x/\Q (V.bl (decide (x<i))) H1:=λH1 s1 z=>by
  have z2:∃i j:Nat,a=i/\b=j/\i<T'.length/\j<T'.length:=by
   rcases z with⟨z1,z2,z3⟩|⟨z1,z2,z3⟩
   ·rw[Zet]at z3
    obtain⟨o,ho,e⟩:=YQ.mp z3
    have:=((ZhJ hT (by have:=hT.1;omega)).mp ho).1
    exact⟨o,b.toNat,e.symm,by omega,by have:=hT.1;omega,by omega⟩
   ·exact⟨a.toNat,b.toNat,by omega,by omega,by omega,by omega⟩
  obtain⟨i,j,rfl,rfl,hi,hj⟩:=z2
  refine⟨_,SqL.of (s1 _ _ hc),_,ZN (by omega),_,SqL.of (s1 _ _ hd),_,ZN (by omega),_,rfl,_,rfl,?_⟩
  have:=k1 H1 s1
  rw[show decide (ZhR T' fl rf (i:Int) (j:Int))=decide (nth rf j<nth fl i)from decide_eq_decide.mpr ⟨λq=>by simpa using q.2,λq=>⟨z,by simpa using q⟩⟩]at this
  exact this
 have no:∀H',Zg H H'->¬ (0<=b/\b<(T'.length:Int)/\a∈Zar T' b.toNat\/a=b/\0<=a/\a<(T'.length:Int))->Q (.bl false) H':=λH' s c=>by
  have:=k1 H' s
  rw[YJ (λz=>c z.1)]at this;exact this
 refine⟨t,T',a,b,rfl,ht,by omega,λH1 s1=>⟨_,rfl,ZF (λz=>fin H1 s1 (.inl (YV z))) λz=>?_⟩⟩
 have nz:=λy=>z (YC y)
 refine ZF (λc=>ZF (λc0=>⟨_,.inr (SqT.of (s1 _ _ ht)),ZF (λc1=>fin H1 s1 (.inr ⟨c,c0,by omega⟩)) λc1=>no H1 s1 ?_⟩) λc0=>no H1 s1 ?_) λc=>no H1 s1 ?_
 ·rintro(y|y)
  ·exact nz y
  ·omega
 ·rintro(y|y)
  ·exact nz y
  ·omega
 ·rintro(y|y)
  ·exact nz y
  ·exact c y.1
theorem ZiN {f:Addr}{fd:FuncData} (F:Fun K "fits_least" "fits_least" ZaE f fd) (T:Txt K mg):FnOk P w K mg base (CXE P w) 1 f fd ["tree","floors","roofs","heights"] (ZcB K mg):=by
 refine F.okX ZiK (λvs H Q E h=>?_) (λcdv A outer s H vs Q E hr h=>?_)
 ·exact h.elim
 ·exact h.elim
theorem Zhm {f:Addr}{fd:FuncData} (F:Fun K "fitted_right" "fitted_right" Zac f fd) (ZX:Callee P w K mg base "flattest" 5 ["tree"] (Za1 K mg)) (ZA:Callee P w K mg base "heights_of" 1 ["flat","row"] (Zan K mg)) (Zdz:Callee P w K mg base "fits_least" 1 ["tree","floors","roofs","heights"] (ZcB K mg)) (Zfw:Callee P w K mg base "is_clash" 3 ["tree","floors","roofs","a","b"] (Zex K mg)) (T:Txt K mg):FnOk P w K mg base (CXE P w) 6 f fd ["tree","least","greatest","told"] (ZbC K mg):=by
 refine F.okX ZaP (λvs H Q E h=>?_) (λcdv A outer s H vs Q E hr h=>?_)
 ·obtain⟨t,a,b,c,T,ls,gs,rfl,_⟩:=h;rfl
 obtain⟨t,a,b,c,T',ls,gs,rfl,ht,ha,hb,hd,n1,n2,n3,k1,kN,kU⟩:=h
 refine⟨_,(Zd (Zp (i:=4) ZaP.nd rfl (Or.inl rfl) (Zi ZX (hr.mono (by decide)) rfl ZaO (Za (pv 0) Zb)))
   (Zd (Zp (i:=5) ZaP.nd rfl (Or.inl rfl) (Zi ZA (hr.mono (by decide)) rfl ZaO (Za (pv 4) (Za (pv 1) Zb))))
   (Zd (Zp (i:=6) ZaP.nd rfl (Or.inl rfl) (Zi ZA (hr.mono (by decide)) rfl ZaO (Za (pv 4) (Za (pv 2) Zb))))
   (Zd (ZO (Zej (Zdd (Zh (ZM (K:=K) rfl) rfl T.b_isinstance Zu (Za (pv 3) (Za (Zht (v:=.ty "tuple") rfl T.b_tuple Zau rfl) Zb))))) (Zf (Zt Zeh)) ZE)
   (Zd (ZO (PW.pt (Zfo (Zn (Zfq (K:=K) rfl hr) (ZcX (sl_v (K:=K) rfl) (pv 3) Ze0 (Ze1 Ze)) (Zbx (Za Zhw Zb)) (Zo _)) (Zde (Zn Za5 (Zh (Zk (K:=K) rfl) rfl T.b_len Yq (Za (pv 3) Zb)) Ze (Zo _))))) (Zf (Zt (Zdg (ZaN Za5 (Zh (Zk (K:=K) rfl) rfl T.b_len Yq (Za (Zw Za6 (pv 3) Ze (λ_ _=>rfl)) Zb)) (Zh (Zk (K:=K) rfl) rfl T.b_len Yq (Za (pv 0) Zb)) (Zo _)) (Zdf (Zi Zdz (hr.mono (by decide)) rfl Zx (Za (pv 0) (Za (pv 5) (Za (pv 6) (Za (Zi ZA (hr.mono (by decide)) rfl ZaO (Za (pv 4) (Za (Zw Za6 (pv 3) Ze (λ_ _=>rfl)) Zb))) Zb))))))))) ZE)
   (Zf (Zt (Zdg (ZaN (Zfq (K:=K) rfl hr) (ZcX (sl_v (K:=K) rfl) (pv 3) Ze0 (Ze1 Ze)) (Zbx (Za Zhw Zb)) (Zo _)) (Zdg (ZaN Za5 (Zh (Zk (K:=K) rfl) rfl T.b_len Yq (Za (pv 3) Zb)) Ze (Zo _)) (Zdf (Zi Zfw (hr.mono (by decide)) rfl Zx (Za (pv 0) (Za (pv 5) (Za (pv 6) (Za (Zw Za6 (pv 3) Ze (λ_ _=>rfl)) (Za (Zw Za6 (pv 3) Ze (λ_ _=>rfl)) Zb)))))))))))))))),?_⟩
 walk_at "rd"
 have eF:(Zl T').length=T'.length:=Zak T'
 by_cases hG:ZI T'
 case neg=>exact⟨t,T',rfl,ht,n1,λz=>absurd z hG,λz H1 s1=>kN hG H1 s1⟩
 have h40:=hG.1
 refine⟨t,T',rfl,ht,by omega,λ_ f H1 s1 hf=>⟨f,a,Zl T',ls,rfl,hf,s1.q ha,by omega,by omega,λl1 fo H2 zfo s2 hfo=>⟨f,b,Zl T',gs,rfl,s2 _ _ hf,(s1.trans s2).q hb,by omega,by omega,λl2 ro H3 zro s3 hro=>?_,λz H3 s3=>kU hG (λy=>z (by omega)) H3 ((s1.trans s2).trans s3)⟩,λz H2 s2=>kU hG (λy=>z (by omega)) H2 (s1.trans s2)⟩,λz=>absurd hG z⟩
 replace k1:=k1 hG ⟨by omega,by omega⟩
 have s03:=(s1.trans s2).trans s3
 have hf3:=(s2.trans s3) _ _ hf
 have hfo3:=s3 _ _ hfo
 have ht3:=s03 _ _ ht
 have efl:(hgt (Zl T') ls).length=(Zl T').length:=Ze7 _ _
 have erf:(hgt (Zl T') gs).length=(Zl T').length:=Ze7 _ _
 obtain⟨fl,efl'⟩:∃fl,fl=hgt (Zl T') ls:=⟨_,rfl⟩
 obtain⟨rf,erf'⟩:∃rf,rf=hgt (Zl T') gs:=⟨_,rfl⟩
 rw[<-efl']at hfo3 hfo efl
 rw[<-erf']at hro erf
 have hc3:=s03 _ _ hd
 refine⟨true,.inl ⟨_,.tup hc3,by with_unfolding_all rfl⟩,ZF (λz=>nomatch z) λ_=>⟨_,hc3,λp H4 s4 hp=>⟨by decide,λp1 hp1=>?_⟩⟩⟩
 have s4':=s4.ZT (o:=.tup [V.str (Str.ofString "row")]) hp1
 have hp':=((Zg.refl H4).ZT (o:=.tup [V.str (Str.ofString "row")]) hp1) _ _ hp
 have hp1':=Zc (H:=H4) (a:=p1) (o:=.tup [V.str (Str.ofString "row")])
 generalize upd H4 p1 (.tup [V.str (Str.ofString "row")])=H5 at s4' hp' hp1'⊢
 have eq:=Zk0 (K:=K) (H:=H5) (p:=p) (q:=p1) (a:=Str.ofString "clash") (b:=Str.ofString "row") hp' hp1'
 refine⟨_,eq,ZF (λz=>absurd z (by decide)) λ_=>⟨_,s4' _ _ hc3,λp2 H6 s6 hp2=>⟨by decide,λp3 hp3=>?_⟩⟩⟩
 have s6':=(s4'.trans s6).ZT (o:=.tup [V.str (Str.ofString "clash")]) hp3
 have hp2':=((Zg.refl H6).ZT (o:=.tup [V.str (Str.ofString "clash")]) hp3) _ _ hp2
 have hp3':=Zc (H:=H6) (a:=p3) (o:=.tup [V.str (Str.ofString "clash")])
 generalize upd H6 p3 (.tup [V.str (Str.ofString "clash")])=H7 at s6' hp2' hp3'⊢
 have eq:=Zk0 (K:=K) (H:=H7) (p:=p2) (q:=p3) (a:=Str.ofString "clash") (b:=Str.ofString "clash") hp2' hp3'
 refine⟨_,eq,ZF (λ_=>⟨_,.inr (SqT.of (s6' _ _ hc3)),ZF (λ_=>⟨_,SqT.of (s6' _ _ hc3),_,rfl,_,SqT.of (s6' _ _ hc3),_,rfl,?_⟩) λz=>absurd rfl z⟩) λz=>absurd (by simp) z⟩
 exact⟨t,fo,ro,T',fl,rf,0,0,rfl,s6' _ _ ht3,s6' _ _ hfo3,s6' _ _ hro,hG,by rw[efl];omega,by rw[erf];omega,λH8 s8=>k1 _ H8 (s03.trans (s6'.trans s8))⟩
theorem ZiO {f:Addr}{fd:FuncData} (F:Fun K "from_below" "from_below" ZaB f fd) (ZP:Callee P w K mg base "way_up" 1 ["tree","place"] (Za0 K mg)) (L:LamD K mg "from_below" f) (B:BM mg base) (T:Txt K mg):FnOk P w K mg base (CXE P w) 5 f fd ["tree"] (ZcA K mg):=by
 refine F.okL L B ZiI (λvs H Q E h=>?_) (λcdv A outer s H vs Q E LI hr h=>?_)
 ·obtain⟨t,T,rfl,_⟩:=h;rfl
 obtain⟨t,T',rfl,ht,hG,hTb,k1⟩:=h
 refine⟨_,(Zf (Zt (ZnA (Nc:=["place","tree"]) (js:=[none,some 0]) (pn:="place") (q:=ZkQ "from_below") (P:=ZhL K mg "from_below") rfl hr ⟨rfl,rfl,rfl,rfl,rfl,rfl,rfl,λ_ _ _ _ _ _=>rfl⟩ (λ_ _ _ _ _ _=>(Zh (Zk (K:=K) rfl) rfl T.b_len Yq (Za (Zi ZP ((hr.in1.in1.deeper _).mono (by decide)) rfl Zx (Za (pv 1) (Za (pv 0) Zb))) Zb))) rfl T.b_sorted (Za (Znh rfl T.b_range (Za (Zh (Zk (K:=K) rfl) rfl T.b_len Yq (Za (pv 0) Zb)) Zb)) Zb) (Zhu (Zpt ⟨LI.code,LI.bm,LI.ql⟩ rfl) (Zhu Zeh ZoN))))),?_⟩
 walk_at "rd"
 have eL:(T'.map V.int).length=T'.length:=Yl ..
 have h40:=hG.1
 refine⟨_,.inr (SqT.of ht),by omega,by omega,λp1 hp1=>?_⟩
 rw[eL]
 have g1:=(Zg.refl H).ZT (o:=.rng 0 (T'.length:Int)) hp1
 have h1:=Zc (H:=H) (a:=p1) (o:=.rng 0 (T'.length:Int))
 generalize upd H p1 (.rng 0 (T'.length:Int))=H4 at g1 h1⊢
 refine⟨g1 _ _ hTb,λf1 H5 zf s5 LO=>⟨_,s5 _ _ h1,by omega,by omega,LO,dpI T',λi H6 i0 i1 s6=>?_,λps l H6 hpm hpw s6 zl hl=>k1 l ps H6 ((g1.trans s5).free zl) ((g1.trans s5).trans s6) hpm hpw hl⟩⟩
 obtain⟨j,rfl⟩:=YZ i0
 have g6:=(g1.trans s5).trans s6
 exact⟨t,T',j,rfl,.inr (SqT.of (g6 _ _ ht)),by omega,by omega,λw H7 zw s7 hw=>⟨w,rfl,_,.inl (SqL.of hw),by rw[Yl];rfl,s7⟩⟩
theorem ZnL {f:Addr}{fd:FuncData} (F:Fun K "row_by" "row_by" Zc8 f fd) (T:Txt K mg):FnOk P w K mg base (CXE P w) 1 f fd ["flat","heights"] (Ze4 K mg):=by
 refine F.okX ZnF (λvs H Q E h=>?_) (λcdv A outer s H vs Q E hr h=>?_)
 ·obtain⟨f,h,F,us,rfl,_⟩:=h;rfl
 obtain⟨f,h,Fl,us,rfl,hf,hh,e,hn,k1⟩:=h
 refine⟨_,(Zf (Zt (Z9 (ZaT (K:=K) rfl) rfl T.b_tuple Zau (Za (Zaj ["least","height"] [none,none] rfl rfl rfl (ZjR (K:=K) rfl rfl T.b_zip (Za (pv 0) (Za (pv 1) Zb))) (λ_ _ _ _ _=>(ZjJ (K:=K) (n:=2) rfl rfl (ZY (Zr (i:=0) (show(["least","height"]:List Str).Nodup from by decide +kernel) rfl (Or.inl rfl)) (ZY (Zr (i:=1) (show(["least","height"]:List Str).Nodup from by decide +kernel) rfl (Or.inl rfl)) Zcn)))) (λ_ _ _ _ _=>Zaa) (λ_ _ _ _ _=>(Zs Za4 (pv 0) (pv 1))) (ZhC (ZbW Zy (ZbW Zy ZhB)))) Zb)))),?_⟩
 walk_at "rd"
 obtain⟨tg,hB⟩:=SqB.of (K:=K) (H:=H) (a:=f) (xs:=Fl.map V.int) (.inr (SqT.of hf))
 obtain⟨tu,hB2⟩:=SqB.of (K:=K) (H:=H) (a:=h) (xs:=us.map V.int) (.inl (SqL.of hh))
 refine⟨tg,tu,_,hB,_,hB2,?_⟩
 refine comp_map (n:=Fl.length) (λi=>V.int (nth Fl i+nth us i)) (YE (show _<=1000 by omega) (by decide)) (λi Hx s hi=>⟨_,_,_,_,s.Zed hB,s.Zed hB2,Zez (by omega),Zez (by omega)⟩) (λHx s=>⟨_,_,s.Zed hB,s.Zed hB2,.inl (by rw[Yl];exact Yf _)⟩) ?_ ?_
 ·rintro i x Hx Hy hi s ⟨q,x,y,hq,rfl,rfl,hx,hy⟩
  have ex:=hx _ (s.Zed hB)
  have ey:=hy _ (s.Zed hB2)
  rw[Zez (by omega)]at ex
  rw[Zez (by omega)]at ey
  cases ex;cases ey
  walk_at "rd"
  exact⟨_,SqT.of Zc,rfl,_,_,rfl,_,_,rfl,rfl,_,rfl,_,rfl,CW.next hi rfl (s.ZT hq)⟩
 ·intro l Hx s hl
  have e1:(List.range Fl.length).map (λi=>V.int (nth Fl i+nth us i))=(ZgH Fl us).map V.int:=by unfold ZgH;rw[Y2];rfl
  rw[e1]
  exact⟨l,rfl,_,.inl ⟨SqL.of Zc,λq hq=>k1 q _ ((s.ZT hl).ZT hq) Zc⟩⟩
theorem ZnM {f:Addr}{fd:FuncData} (F:Fun K "lifted" "lifted" Zc9 f fd) (ZdA:Callee P w K mg base "from_below" 5 ["tree"] (ZcA K mg)) (T:Txt K mg):FnOk P w K mg base (CXE P w) 6 f fd ["tree","heights"] (Ze5 K mg):=by
 refine F.okX ZgJ (λvs H Q E h=>?_) (λcdv A outer s H vs Q E hr h=>?_)
 ·obtain⟨t,h,T,hs,rfl,_⟩:=h;rfl
 obtain⟨t,h,T',hs,rfl,ht,hh,hG,hl,hTb,k1⟩:=h
 refine⟨_,(Zd (Zp (i:=2) ZgJ.nd rfl (Or.inl rfl) (Z9 (Zfp (K:=K) rfl) rfl T.b_list ZjH (Za (pv 1) Zb)))
   (Zd (Zbz (Zdi PassesOwn.never rfl (Zdh (Zng (K:=K) rfl (Zi ZdA (hr.mono (by decide)) rfl Zx (Za (pv 0) Zb)) (Zd5 Zbw Ze))) (Zr (i:=3) ZgJ.nd rfl (Or.inl rfl)) (Zf (ZO (Zn ZoK (Zw Za6 (pv 0) (pv 3) (λ_ _=>rfl)) Ze (Zo _)) (Zf (Zcx (Zh (ZeZ rfl) rfl T.b_max ZhD (Za (Zw Zz (pv 2) (pv 3) (λ_ _=>rfl)) (Za (Zw Zz (pv 2) (Zw Za6 (pv 0) (pv 3) (λ_ _=>rfl)) (λ_ _=>rfl)) Zb))) (Zel (pv 2) (pv 3) set_list (λ_=>rfl)))) ZE))))
   (Zf (Zt (pv 2))))),?_⟩
 walk_at "rd"
 have eL:(T'.map V.int).length=T'.length:=Yl ..
 obtain⟨h40,nsT,hT⟩:=id hG
 have eT:=hT.1
 refine⟨_,.inl (SqL.of hh),λl zl=>?_⟩
 have g1:=(Zg.refl H).ZT (o:=.lst (hs.map V.int)) zl
 have h1:=Zc (H:=H) (a:=l) (o:=.lst (hs.map V.int))
 generalize upd H l (.lst (hs.map V.int))=H1 at g1 h1⊢
 refine⟨t,T',rfl,g1 _ _ ht,hG,Zee.same hTb g1,λq ps H2 zq s2 hpm hpw hq=>⟨q,rfl,_,SqL.of hq,λp zp=>?_⟩⟩
 have nlq:l≠q:=λz=>by rw[z,zq]at h1;cases h1
 have e2:(ps.map V.int).reverse=ps.reverse.map V.int:=(List.map_reverse ..).symm
 rw[e2]
 have hpm2:ps.reverse.Perm (nats (T'.length:Int)):=(List.reverse_perm ps).trans hpm
 have hpw2:ps.reverse.Pairwise λx y=>dpI T' x<=dpI T' y:=List.pairwise_reverse.mpr hpw
 generalize ps.reverse=qs at hpm2 hpw2⊢
 have g3:=s2.ZT (o:=.lst (qs.map V.int)) zp
 have h3:=Zc (H:=H2) (a:=p) (o:=.lst (qs.map V.int))
 have nlp:l≠p:=λz=>by rw[<-z,s2 _ _ h1]at zp;cases zp
 generalize upd H2 p (.lst (qs.map V.int))=H3 at g3 h3⊢
 have g13:=g1.trans g3
 refine⟨⟨_,SqL.of h3⟩,Zpn (n:=qs.length) (λi σ Hx=>∃(v3:Option V) (us:List Int),σ=[some (.ref t),some (.ref h),some (.ref l),v3]/\ZgK T' hs qs us i/\Hx l=some (.lst (us.map V.int))/\Hx p=some (.lst (qs.map V.int))/\Zg H Hx) ⟨none,hs,rfl,⟨hl,λp hp=>by rw[Yb (λz=>by simpa using z.1)]⟩,g3 _ _ h1,h3,g13⟩ (λi σ Hx hi ⟨_,_,_,_,_,h,_⟩=>⟨_,_,SqL.of h,Zez hi⟩) (fun σ Hx ⟨_,_,_,_,_,h,_⟩=>⟨_,SqL.of h,by rw[Yl];exact Yf _⟩) ?_ ?_⟩
 ·rintro i x σ Hx Hx' hi ⟨v3,us,rfl,hL,hlx,hpx,sx⟩ ⟨rfl,hx⟩
  have e1:=hx _ (SqL.of hpx)
  rw[Zez hi]at e1
  cases e1
  have eqi:qs[i]?=some (nth qs i):=by unfold nth;rw[Yp,Yh hi];rfl
  have mq:=hpm2.mem_iff.mp (ZrD hi)
  unfold nats at mq
  obtain⟨j,hj,ej⟩:=YQ.mp mq
  have hj':=YF.mp hj
  have hj2:j<T'.length:=by omega
  rw[<-ej]at eqi⊢
  clear mq hx ej hj
  walk_at "rd"
  have eu:=hL.1
  refine⟨_,SqT.of (sx _ _ ht),_,ZN hj2,_,rfl,ZF (λc0=>?_) λc0=>?_⟩
  ·rcases ZS hT (p:=j) (by omega)with e|⟨k,e,hk,_,_⟩
   ·omega
   have hk2:k<T'.length:=by omega
   refine⟨_,SqL.of hlx,_,ZN (by omega),_,SqT.of (sx _ _ ht),_,ZN hj2,_,_,rfl,SqL.of hlx,_,by rw[e];exact ZN (by omega),_,rfl,_,rfl,_,hlx,j,by rw[Yl];exact Zdm (by omega),us.set j (max (nth us j) (nth us k)),ZnJ hT hpm2 hpw2 hL eqi hj2 hk2 e,?_,by rw[Zj (Ne.symm nlp)];exact hpx,sx.upd zl⟩
   rw[Zc,List.map_set,show(if nth us k>nth us j then nth us k else nth us j)=max (nth us j) (nth us k) by split<;>omega]
  ·rcases ZS hT (p:=j) (by omega)with e|⟨k,e,hk,_,_⟩
   ·exact⟨us,ZnI hL eqi e,hlx,hpx,sx⟩
   ·omega
 ·rintro σ Hx ⟨v3,us,rfl,hL,hlx,hpx,sx⟩
  walk_at "rd"
  exact k1 l us Hx zl sx (ZpP hpm2 hL) hlx
theorem ZnN {f:Addr}{fd:FuncData} (F:Fun K "fitted" "fitted" Zda f fd) (ZP:Callee P w K mg base "way_up" 1 ["tree","place"] (Za0 K mg)) (ZX:Callee P w K mg base "flattest" 5 ["tree"] (Za1 K mg)) (ZA:Callee P w K mg base "heights_of" 1 ["flat","row"] (Zan K mg)) (Zdb:Callee P w K mg base "row_by" 1 ["flat","heights"] (Ze4 K mg)) (Zdc:Callee P w K mg base "lifted" 6 ["tree","heights"] (Ze5 K mg)) (T:Txt K mg):FnOk P w K mg base (CXE P w) 7 f fd ["tree","least","greatest"] (ZgI K mg):=by
 refine F.okX Za2 (λvs H Q E h=>?_) (λcdv A outer s H vs Q E hr h=>?_)
 ·obtain⟨t,a,b,T,ls,gs,rfl,_⟩:=h;rfl
 obtain⟨t,a,b,T',ls,gs,rfl,ht,ha,hb,hTb,n1,n2,n3,k0,kN,kU⟩:=h
 refine⟨_,(Zd (Zp (i:=3) Za2.nd rfl (Or.inl rfl) (Zi ZX (hr.mono (by decide)) rfl ZaO (Za (pv 0) Zb)))
   (Zd (Zp (i:=4) Za2.nd rfl (Or.inr rfl) (Zi ZA (hr.mono (by decide)) rfl ZaO (Za (pv 3) (Za (pv 1) Zb))))
   (Zd (Zp (i:=5) Za2.nd rfl (Or.inl rfl) (Zi ZA (hr.mono (by decide)) rfl ZaO (Za (pv 3) (Za (pv 2) Zb))))
   (Zd (Zp (i:=6) Za2.nd rfl (Or.inl rfl) (Zi Zdc (hr.mono (by decide)) rfl Zx (Za (pv 0) (Za (pv 4) Zb))))
   (Zd (Zbz (Zdi PassesOwn.never rfl (Zrw (K:=K) rfl rfl T.b_enumerate (Za (pv 6) Zb)) (Zhx (n:=2) rfl (ZY (Zr (i:=7) Za2.nd rfl (Or.inl rfl)) (ZY (Zr (i:=8) Za2.nd rfl (Or.inr rfl)) Zcn))) (Zf (ZO (Zn Zd6 (pv 8) (Zw Zz (pv 5) (pv 7) (λ_ _=>rfl)) (Zo _)) (Zd (Zes (i:=9) ["a","height","floors"] [none,some 8,some 4] Za2.nd rfl (Or.inl rfl) rfl rfl rfl (Zdh (Zs (ZjT (K:=K) rfl) (ZaJ (Za (pv 7) Zb)) (Zi ZP (hr.mono (by decide)) rfl Zx (Za (pv 0) (Za (pv 7) Zb))))) (λ_ _ _ _ _=>(Zr (i:=0) (show(["a","height","floors"]:List Str).Nodup from by decide +kernel) rfl (Or.inl rfl))) (λ_ _ _ _ _=>ZcZ (Zn Za5 (Zw (r:=Zku K) Zz (pv 2) (pv 0) (λ_ _=>rfl)) (pv 1) (Zo _))) (λ_ _ _ _ _=>(pv 0)) Zy)
   (Zf (Zt (Zbx (Za Zhw (Za (Zw Zz (pv 9) Ze (λ_ _=>rfl)) (Za (pv 7) Zb))))))) ZE))))
   (Zf (Zt (Zbx (Za Zhw (Za (Zi Zdb (hr.mono (by decide)) rfl Zx (Za (pv 3) (Za (pv 6) Zb))) Zb)))))))))),?_⟩
 walk_at "rd"
 have eF:(Zl T').length=T'.length:=Zak T'
 by_cases hG:ZI T'
 case neg=>exact⟨t,T',rfl,ht,n1,λz=>absurd z hG,λz H1 s1=>kN hG H1 s1⟩
 obtain⟨h40,nsT,hT⟩:=id hG
 have eT:=hT.1
 refine⟨t,T',rfl,ht,by omega,λ_ f H1 s1 hf=>⟨f,a,Zl T',ls,rfl,hf,s1.q ha,by omega,by omega,λl1 fo H2 zfo s2 hfo=>⟨f,b,Zl T',gs,rfl,s2 _ _ hf,(s1.trans s2).q hb,by omega,by omega,λl2 ro H3 zro s3 hro=>?_,λz H3 s3=>kU hG (λy=>z (by omega)) H3 ((s1.trans s2).trans s3)⟩,λz H2 s2=>kU hG (λy=>z (by omega)) H2 (s1.trans s2)⟩,λz=>absurd hG z⟩
 rw[eF]at l1 l2
 have k1:∀(c:Addr) (d:Td) H',Zg H H'->ToldAt H' c d->FitIs T' ls gs d->Q (.ref c) H':=λc d H' s hd _=>by
  cases d with
  |row ns=>obtain⟨_,r,hc,_⟩:=hd;exact k0 hG ⟨l1,l2⟩ c _ H' s hc
  |clash x y=>exact k0 hG ⟨l1,l2⟩ c _ H' s hd
 have s03:=(s1.trans s2).trans s3
 have hf3:=(s2.trans s3) _ _ hf
 have hfo3:=s3 _ _ hfo
 have ht3:=s03 _ _ ht
 refine⟨t,fo,T',_,rfl,ht3,hfo3,hG,by rw[Ze7];omega,Zee.same hTb s03,λnd us H4 znd s4 hL hnd=>⟨nd,rfl,_,SqL.of hnd,?_⟩⟩
 have s04:=s03.trans s4
 have hf4:=s4 _ _ hf3
 have hfo4:=s4 _ _ hfo3
 have hro4:=s4 _ _ hro
 obtain⟨hD,hDn⟩:=ZpQ hG l1 hL
 have eu:=hL.1
 have efl:(hgt (Zl T') ls).length=T'.length:=by rw[Ze7];exact eF
 have erf:(hgt (Zl T') gs).length=T'.length:=by rw[Ze7];exact eF
 refine Zpn (n:=T'.length) (λi σ Hx=>∃v7 v8:Option V,σ=[some (.ref t),some (.ref a),some (.ref b),some (.ref f),some (.ref fo),some (.ref ro),some (.ref nd),v7,v8,none]/\Zg H4 Hx/\∀p,p<i->nth us p<=nth (hgt (Zl T') gs) p) ⟨none,none,rfl,Zg.refl H4,λp hp=>absurd hp (by omega)⟩ (λi σ Hx hi ⟨_,_,_,sx,_⟩=>⟨_,_,SqL.of (sx _ _ hnd),Zez (by omega)⟩) (fun σ Hx ⟨_,_,_,sx,_⟩=>⟨_,SqL.of (sx _ _ hnd),by rw[Yl];omega⟩) ?_ ?_
 ·rintro i x σ Hx Hx' hi ⟨v7,v8,rfl,sx,hle⟩ ⟨q,x,hq,rfl,rfl,hx⟩
  have ex:=hx _ (SqL.of (sx _ _ hnd))
  rw[Zez (by omega)]at ex
  cases ex
  replace sx:=sx.ZT (o:=.tup [.int (i:Int),.int (nth us i)]) hq
  have tq:(upd Hx q (.tup [.int (i:Int),.int (nth us i)])) q=some (.tup [.int (i:Int),.int (nth us i)]):=Zc
  generalize upd Hx q (.tup [.int (i:Int),.int (nth us i)])=Hy at sx tq⊢
  walk_at "rd"
  refine⟨_,SqT.of tq,rfl,_,_,rfl,_,_,rfl,rfl,_,_,rfl,SqL.of (sx _ _ hro4),_,ZN (by omega),_,rfl,_,rfl,ZF (λc=>⟨by decide,λp1 hp1=>?_⟩) λc=>⟨sx,λp hp=>?_⟩⟩
  ·have g1:=(Zg.refl Hy).ZT (o:=.lst [V.int (i:Int)]) hp1
   have h1:=Zc (H:=Hy) (a:=p1) (o:=.lst [V.int (i:Int)])
   generalize upd Hy p1 (.lst [V.int (i:Int)])=Hz at g1 h1⊢
   refine⟨t,T',i,rfl,.inr (SqT.of (g1 _ _ (sx _ _ (s4 _ _ ht3)))),by omega,hi,λw H5 zw s5 hw=>⟨w,rfl,_,SqL.of (s5 _ _ h1),_,SqL.of hw,?_,λp2 hp2=>?_⟩⟩
   ·have:=Zer T' T'.length (nth T' i)
    rw[Zar,Yl,Yl]
    exact Yn (show _<=1000 by simp only[YM,List.length_nil];omega) (by decide)
   have eW:[V.int (i:Int)]++(Zar T' i).map V.int=((i::way T' i).map λ(q:Nat)=>(q:Int)).map V.int:=by rw[Zet];rfl
   rw[eW]
   have g2:=(g1.trans s5).ZT (o:=.lst (((i::way T' i).map λ(q:Nat)=>(q:Int)).map V.int)) hp2
   have h2:=Zc (H:=H5) (a:=p2) (o:=.lst (((i::way T' i).map λ(q:Nat)=>(q:Int)).map V.int))
   generalize upd H5 p2 (.lst (((i::way T' i).map λ(q:Nat)=>(q:Int)).map V.int))=H6 at g2 h2⊢
   have hW:∀o∈i::way T' i,o<T'.length:=λo ho=>by
    rcases Ym.mp ho with rfl|ho
    ·exact hi
    ·have:=((ZhJ hT (by omega)).mp ho).1;omega
   have hWl:(i::way T' i).length<=1000:=by
    have:=Zer T' T'.length (nth T' i)
    unfold way
    rw[YM];omega
   obtain⟨⟨o1,ho1,e1⟩,_⟩:=hD.2 i hi
   rw[hDn i hi]at e1
   have hcl:∀o∈i::way T' i,nth (hgt (Zl T') ls) o=nth us i->Zl2 T' ls gs (o:Int) (i:Int):=λo ho e=>by
    have hoT:=hW o ho
    rw[Zaq (by omega)]at e c
    unfold Zl2
    simp only[Y6]
    refine⟨by omega,by omega,by omega,by omega,?_,by omega⟩
    rcases Ym.mp ho with rfl|ho
    ·exact .inl rfl
    ·exact .inr (by rw[Zet];exact YQ.mpr ⟨o,ho,rfl⟩)
   have ho1':nth (hgt (Zl T') ls) o1=nth us i:=by rw[Zaq (by have:=hW o1 ho1;omega)];omega
   generalize hWg:i::way T' i=W at h2 hW hWl hcl ho1⊢
   refine⟨⟨_,SqL.of h2⟩,Zc2 (n:=W.length) (λj=>decide (nth (hgt (Zl T') ls) (W.getD j 0)=nth us i)) (λj=>V.int ((W.getD j 0:Nat):Int)) (YE hWl (by decide)) (λj Hz s hj=>⟨_,_,SqL.of (s _ _ h2),Yh (by simpa using hj)⟩) (λHz s=>⟨_,SqL.of (s _ _ h2),by simp⟩) ?_ ?_⟩
   ·rintro j x Hz Hw hj sz ⟨rfl,hx⟩
    have ex:=hx _ (SqL.of (sz _ _ h2))
    have eo:(((W.map λ(q:Nat)=>(q:Int)).map V.int))[j]?=some (V.int ((W.getD j 0:Nat):Int)):=by simp[Yp,hj]
    rw[eo]at ex
    cases ex
    have ho:=hW _ (show W.getD j 0∈W by rw[Yp,Yh hj];exact YR hj)
    walk_at "rd"
    exact⟨_,SqL.of ((g2.trans sz) _ _ (sx _ _ hfo4)),_,ZN (by omega),rfl,ZF (λh=>CF.take hj (YC (by simpa using h)) rfl sz) (λh=>CF.skip hj (YJ (by simpa using h)) sz)⟩
   ·intro lf Hz sz hlf
    have hmem:∃(j2:Nat) (os:List V),(((List.range W.length).filter λj=>decide (nth (hgt (Zl T') ls) (W.getD j 0)=nth us i)).map λj=>V.int ((W.getD j 0:Nat):Int))=V.int ((W.getD j2 0:Nat):Int)::os/\j2<W.length/\nth (hgt (Zl T') ls) (W.getD j2 0)=nth us i/\∀j',j'<j2->nth (hgt (Zl T') ls) (W.getD j' 0)≠nth us i:=by
     obtain⟨j1,hj1,ej1⟩:=Jb ho1
     have hin:j1∈(List.range W.length).filter λj=>decide (nth (hgt (Zl T') ls) (W.getD j 0)=nth us i):=YU.mpr ⟨YF.mpr hj1,by
      rw[Yp,Yh hj1]
      simpa[ej1]using ho1'⟩
     cases hf:(List.range W.length).filter λj=>decide (nth (hgt (Zl T') ls) (W.getD j 0)=nth us i)with
     |nil=>rw[hf]at hin;cases hin
     |cons j2 r =>
      obtain⟨m1,m2,m3⟩:=Zj8 hf
      exact⟨j2,_,rfl,m1,YV m2,λj' hj'=>of_decide_eq_false (m3 j' hj')⟩
    obtain⟨j2,os,eos,hj2,hoe,hfst⟩:=hmem
    have hoW:W.getD j2 0∈W:=by rw[Yp,Yh hj2];exact YR _
    rw[eos]
    have g3:=(g2.trans sz).ZT (o:=.lst (V.int ((W.getD j2 0:Nat):Int)::os)) hlf
    have eus:nth us i=nth (ZgH (Zl T') us) i-nth (Zl T') i:=by rw[hDn i hi];omega
    refine⟨lf,rfl,_,SqL.of Zc,V.int ((W.getD j2 0:Nat):Int),atI_hd,by decide,λcc zc=>k1 cc (.clash ((W.getD j2 0:Nat):Int) (i:Int)) _ (((s04.trans sx).trans g3).ZT zc) Zc ⟨hcl _ hoW hoe,ZgH (Zl T') us,i,j2,hD,⟨hi,λp hp=>?_,?_,by rw[hWg];exact hj2,by rw[hWg,<-eus];exact hoe,λj' hj'=>by rw[hWg,<-eus];exact hfst j' hj'⟩,by rw[hWg],rfl⟩⟩
    ·have:=hle p hp
     rw[Zaq (by omega)]at this
     rw[hDn p (by omega)];omega
    ·rw[hDn i hi]
     rw[Zaq (by omega)]at c
     omega
  ·by_cases z:p<i
   ·exact hle p z
   ·have:p=i:=by omega
    subst this
    omega
 ·rintro σ Hx ⟨v7,v8,rfl,sx,hle⟩
  walk_at "rd"
  refine⟨f,nd,Zl T',us,rfl,sx _ _ hf4,sx _ _ hnd,by omega,by omega,λr H5 s5 hr5=>⟨by decide,λc zc=>?_⟩⟩
  have g6:=(Zg.refl H5).upd (o:=.tup [V.str (Str.ofString "row"),V.ref r]) zc
  refine k1 c (.row (ZgH (Zl T') us)) _ (((s04.trans sx).trans s5).trans g6) ⟨by rw[Zk1];omega,r,Zc,g6 _ _ hr5⟩ ⟨hD,λp hp=>?_⟩
  have:=hle p hp
  rw[Zaq (by omega)]at this
  rw[hDn p hp]
  omega
theorem Zmc {f:Addr}{fd:FuncData} (F:Fun K "nearest" "nearest" Zb1 f fd) (ZX:Callee P w K mg base "flattest" 5 ["tree"] (Za1 K mg)) (ZA:Callee P w K mg base "heights_of" 1 ["flat","row"] (Zan K mg)) (Zdb:Callee P w K mg base "row_by" 1 ["flat","heights"] (Ze4 K mg)) (Zdc:Callee P w K mg base "lifted" 6 ["tree","heights"] (Ze5 K mg)) (Zcb:Callee P w K mg base "higher_pairs" 2 ["tree","heights"] (ZbB K mg)) (L:LamD K mg "nearest" f) (B:BM mg base) (T:Txt K mg):FnOk P w K mg base (CXE P w) 7 f fd ["tree","row"] (Zfv K mg):=by
 refine F.okL L B Zah (λvs H Q E h=>?_) (λcdv A outer s H vs Q E LI hr h=>?_)
 ·obtain⟨t,r,T,ns,rfl,_⟩:=h;rfl
 obtain⟨t,r,T',ns,rfl,ht,hr1,hTb,hTf,n1,n2,k0,kN,kU⟩:=h
 refine⟨_,(Zd (Zp (i:=2) Zah.nd rfl (Or.inl rfl) (Zi ZX (hr.mono (by decide)) rfl ZaO (Za (pv 0) Zb)))
   (Zd (Zp (i:=3) Zah.nd rfl (Or.inr rfl) (Zi ZA (hr.mono (by decide)) rfl ZaO (Za (pv 2) (Za (pv 1) Zb))))
   (Zd (Zp (i:=4) Zah.nd rfl (Or.inl rfl) (ZpI (Nc:=["ab","heights"]) (js:=[none,some 3]) (pn:="ab") (q:=ZkQ "nearest") (P:=ZhL K mg "nearest") rfl hr ⟨rfl,rfl,rfl,rfl,rfl,rfl,rfl,λ_ _ _ _ _ _=>rfl⟩ (λ_ _ _ _ _ _=>(Zs Zat (Zw (r:=Zku K) Zz (pv 1) (Zw (r:=Zm7 K) Za6 (pv 0) Ze (λ_ _=>rfl)) (λ_ _=>rfl)) (Zw (r:=Zku K) Zz (pv 1) (Zw (r:=Zm7 K) Za6 (pv 0) Ze (λ_ _=>rfl)) (λ_ _=>rfl)))) rfl T.b_max (Za (Zi Zcb (hr.mono (by decide)) rfl Zx (Za (pv 0) (Za (pv 3) Zb))) Zb) (Zhu (Zpt ⟨LI.code,LI.bm,LI.ql⟩ rfl) (Zhu Zgy ZoN))))
   (Zd (Zp (i:=5) Zah.nd rfl (Or.inr rfl) Ze)
   (Zd (ZO (Zn Zrk (pv 4) Zgy (Zo _)) (Zd (Zcx (pv 4) (Zhx (n:=2) rfl (ZY (Zr (i:=6) Zah.nd rfl (Or.inl rfl)) (ZY (Zr (i:=7) Zah.nd rfl (Or.inl rfl)) Zcn))))
   (Zf (Zp (i:=5) Zah.nd rfl (Or.inr rfl) (Zs Zgb (Zs Za4 (Zs Zat (Zw Zz (pv 3) (pv 6) (λ_ _=>rfl)) (Zw Zz (pv 3) (pv 7) (λ_ _=>rfl))) Ze) Ze)))) ZE)
   (Zd (Zp (i:=8) Zah.nd rfl (Or.inl rfl) (Zi Zdb (hr.mono (by decide)) rfl Zx (Za (pv 2) (Za (Zaj ["height","far"] [none,some 5] rfl rfl rfl (Zdh (Zi Zdc (hr.mono (by decide)) rfl Zx (Za (pv 0) (Za (pv 3) Zb)))) (λ_ _ _ _ _=>(Zr (i:=0) (show(["height","far"]:List Str).Nodup from by decide +kernel) rfl (Or.inl rfl))) (λ_ _ _ _ _=>Zaa) (λ_ _ _ _ _=>(Zs Zat (pv 0) (pv 1))) Zy) Zb))))
   (Zf (Zt (Zbx (Za (pv 5) (Za (pv 8) (Za (pv 4) Zb)))))))))))),?_⟩
 have eF:(Zl T').length=T'.length:=Zak T'
 by_cases hG:ZI T'
 case neg =>
  refine ZaL (λ_ _=>False) (λR hR=>?_) (λ_ _ z=>z.elim)
  walk_at "rd"
  exact⟨t,T',rfl,ht,n1,λz=>absurd z hG,λz H1 s1=>kN hG H1 s1⟩
 by_cases hl:ns.length=T'.length
 case neg =>
  refine ZaL (fun σ Hx=>∃f,σ=[some (.ref t),some (.ref r),some (.ref f),none,none,none,none,none,none]/\Hx f=some (.tup ((Zl T').map V.int))/\Zg H Hx) (λR hR=>?_) ?_
  ·walk_at "rd"
   exact⟨t,T',rfl,ht,by omega,λ_ f H1 s1 hf=>hR _ _ ⟨f,rfl,hf,s1⟩,λg=>absurd hG g⟩
  rintro σ H1 ⟨f,rfl,hf,s1⟩
  refine ZaL (λ_ _=>False) (λR hR=>?_) (λ_ _ z=>z.elim)
  walk_at "rd"
  exact⟨f,r,_,ns,rfl,hf,hr1.elim (λz=>.inl (s1.seq z)) (λz=>.inr (s1.seqT z)),by omega,by omega,λz=>absurd (by omega) hl,λz H2 s2=>kU hG hl H2 (s1.trans s2)⟩
 have k1:=λ(q m:Addr) (v:V) (ms:List Int) (pr:Option (Int×Int)) H' (s:Zg H H') (h:H' q=some (.tup [.int (ZkV (hgt (Zl T') ns) pr),.ref m,v])) (_:H' m=some (.tup (ms.map V.int))) (_:ZhS H' v pr) (_:IsPair T' (hgt (Zl T') ns) pr)=>k0 hG hl q _ H' s h
 have hn:=hG.1
 have eF:(Zl T').length=T'.length:=Zak T'
 have eH:(hgt (Zl T') ns).length=T'.length:=by rw[Ze7,eF]
 refine ZaL (fun σ Hx=>∃f,σ=[some (.ref t),some (.ref r),some (.ref f),none,none,none,none,none,none]/\Hx f=some (.tup ((Zl T').map V.int))/\Zg H Hx) (λR hR=>?_) ?_
 ·walk_at "rd"
  exact⟨t,T',rfl,ht,by omega,λ_ f H1 s1 hf=>hR _ _ ⟨f,rfl,hf,s1⟩,λg=>absurd hG g⟩
 rintro σ H1 ⟨f,rfl,hf,s1⟩
 refine ZaL (fun σ Hx=>∃h,σ=[some (.ref t),some (.ref r),some (.ref f),some (.ref h),none,none,none,none,none]/\Hx h=some (.lst ((hgt (Zl T') ns).map V.int))/\Zg H1 Hx) (λR hR=>?_) ?_
 ·walk_at "rd"
  exact⟨f,r,_,ns,rfl,hf,hr1.elim (λz=>.inl (s1.seq z)) (λz=>.inr (s1.seqT z)),by omega,by omega,λ_ l H2 zl s2 hl2=>hR _ _ ⟨l,rfl,hl2,s2⟩,λz=>absurd (by omega) z⟩
 rintro σ H2 ⟨h,rfl,hh,s2⟩
 replace hf:=s2 _ _ hf
 replace s1:=s1.trans s2
 clear s2 H1
 refine ZaL (fun σ Hx=>∃(v:V) (pr:Option (Int×Int)),σ=[some (.ref t),some (.ref r),some (.ref f),some (.ref h),some v,none,none,none,none]/\ZhS Hx v pr/\IsPair T' (hgt (Zl T') ns) pr/\Zg H2 Hx) (λR hR=>?_) ?_
 ·walk_at "rd"
  refine⟨t,h,T',_,rfl,s1 _ _ ht,hh,hn,eH,λl rs H3 zl s3 tl pl=>?_⟩
  obtain⟨as,l1,l2,l3⟩:=id tl
  have hrow:∀i (h1:i<as.length),rowOf H3 (V.ref as[i])=rs.getD i []:=λi h1=>by
   rw[ZpS (l3 i h1 (by omega)),Yp,Yh (by omega)];rfl
  refine⟨Zee.same hTb (s1.trans s3),λf1 H5 zf s5 LO=>⟨l,rfl,_,s5 _ _ l1,LO,λv=>dfK (hgt (Zl T') ns) (rowOf H3 v),λv H6 hv s6=>?_,λhns H6 s6=>?_,λi H6 hi hB s6=>?_⟩⟩
  ·obtain⟨a0,ha0,rfl⟩:=YQ.mp hv
   obtain⟨i,hi,rfl⟩:=List.mem_iff_getElem.mp ha0
   obtain⟨a,b,e,hb,ha,_⟩:=Zdx.mp ((List.Perm.mem_iff pl.1).mp (YR (show i<rs.length by omega)))
   have hx:=s6 _ _ (s5 _ _ (l3 i hi (by omega)))
   rw[e]at hx
   have hw:=ZhZ ha
   have ea:a=((a.toNat:Nat):Int):=by omega
   have hh6:=s6 _ _ (s5 _ _ (s3 _ _ hh))
   refine⟨_,rfl,_,SqT.of hx,_,rfl,_,_,rfl,SqL.of hh6,_,(congrArg (atI _) ea).trans (ZN (by omega)),_,rfl,_,SqT.of hx,_,rfl,_,_,rfl,SqL.of hh6,_,ZN (by omega),_,rfl,_,rfl,?_,Zg.refl _⟩
   show _=dfK (hgt (Zl T') ns) (rowOf H3 (V.ref as[i]))
   rw[hrow i hi,Yp,Yh (show i<rs.length by omega),Option.getD_some,e]
   simp[dfK]
  ·refine hR _ _ ⟨.non,none,rfl,rfl,?_,s3.trans (s5.trans s6)⟩
   have:as=[]:=by simpa using hns
   have e:=pl.1.length_eq
   rw[<-l2,this]at e
   exact List.length_eq_zero_iff.mp e.symm
  ·have hi:i<as.length:=by simpa using hi
   obtain⟨a,b,e,hb,ha,_⟩:=Zdx.mp ((List.Perm.mem_iff pl.1).mp (YR (show i<rs.length by omega)))
   have hx:=s6 _ _ (s5 _ _ (l3 i hi (by omega)))
   rw[e]at hx
   have eg:∀j,j<as.length->ZaS (as.map V.ref) j=V.ref (as.getD j 0):=λj hj=>by
    unfold ZaS
    rw[Yp,YH,Yh hj,Yp,Yh hj];rfl
   have eg2:∀j (hj:j<as.length),as.getD j 0=as[j]:=λj hj=>by rw[Yp,Yh hj];rfl
   refine hR _ _ ⟨_,some (a,(b:Int)),rfl,⟨as[i],by rw[eg i hi,eg2 i hi],hx⟩,⟨rs,i,pl,by omega,?_,λj hj=>?_⟩,s3.trans (s5.trans s6)⟩
   ·rw[Yp,Yh (show i<rs.length by omega)];exact e
   ·have:=hB j (by simpa using(show j<as.length by omega))
    simp only[eg j (by omega),eg i hi,eg2 j (by omega),eg2 i hi,hrow j (by omega),hrow i hi]at this
    exact this
 rintro σ H3 ⟨v,pr,rfl,hv,hp,s3⟩
 replace hf:=s3 _ _ hf
 replace hh:=s3 _ _ hh
 replace s1:=s1.trans s3
 clear s3 H2
 refine ZaL (fun σ Hx=>σ=[some (.ref t),some (.ref r),some (.ref f),some (.ref h),some v,some (.int 0),none,none,none]/\Hx=H3) (λR hR=>?_) ?_
 ·walk_at "rd"
  exact hR _ _ ⟨rfl,rfl⟩
 rintro σ H4 ⟨rfl,rfl⟩
 refine ZaL (fun σ Hx=>∃v6 v7,σ=[some (.ref t),some (.ref r),some (.ref f),some (.ref h),some v,some (.int (ZkV (hgt (Zl T') ns) pr)),v6,v7,none]/\Hx=H4) (λR hR=>?_) ?_
 ·walk_at "rd"
  cases pr with
  |none =>
   have:v=.non:=hv
   exact ZF (λz=>absurd this z) λ_=>hR _ _ ⟨_,_,rfl,rfl⟩
  |some z =>
   obtain⟨a0,rfl,ha0⟩:=hv
   obtain⟨⟨b,e2,hb,hm⟩,_⟩:=ZrE hp
   have hw:=ZhZ hm
   have ea:z.1=((z.1.toNat:Nat):Int):=by omega
   have eb:z.2=((z.2.toNat:Nat):Int):=by omega
   refine ZF (λ_=>?_) λz=>absurd (λy=>nomatch y) z
   exact⟨a0,rfl,_,SqT.of ha0,rfl,_,_,rfl,_,_,rfl,rfl,_,_,rfl,SqL.of hh,_,(congrArg (atI _) ea).trans (ZN (by omega)),_,_,rfl,SqL.of hh,_,(congrArg (atI _) eb).trans (ZN (by omega)),_,rfl,_,rfl,⟨by decide,by decide⟩,hR _ _ ⟨_,_,rfl,rfl⟩⟩
 rintro σ H5 ⟨v6,v7,rfl,rfl⟩
 walk_at "rd"
 refine⟨t,h,T',_,rfl,s1 _ _ ht,hh,hG,eH,Zee.same hTf s1,λl us H6 zl s6 hL hl6=>⟨l,rfl,⟨_,SqL.of hl6⟩,?_⟩⟩
 have eU:=hL.1
 refine comp_map (n:=us.length) (λi=>V.int (nth us i-ZkV (hgt (Zl T') ns) pr)) (YE (show _<=1000 by omega) (by decide)) (λi Hx s hi=>⟨_,_,SqL.of (s _ _ hl6),Zez hi⟩) (λHx s=>⟨_,SqL.of (s _ _ hl6),by simp⟩) ?_ ?_
 ·rintro i x Hx Hy hi sx ⟨rfl,hx⟩
  have ex:=hx _ (SqL.of (sx _ _ hl6))
  rw[Zez hi]at ex
  cases ex
  walk_at "rd"
  exact CW.next hi rfl sx
 ·intro l2 Hx sx zl2
  have g:=sx.ZT (o:=.lst ((List.range us.length).map λi=>V.int (nth us i-ZkV (hgt (Zl T') ns) pr))) zl2
  have e7:((List.range us.length).map λi=>V.int (nth us i-ZkV (hgt (Zl T') ns) pr))=(us.map λx=>x-ZkV (hgt (Zl T') ns) pr).map V.int:=by
   refine List.ext_getElem (by simp) λi i1 i2=>?_
   have:i<us.length:=by simpa using i1
   simp[nth,Yp,this]
  rw[e7]at g⊢
  have sA:=s6.trans g
  refine⟨f,l2,Zl T',us.map λx=>x-ZkV (hgt (Zl T') ns) pr,rfl,sA _ _ hf,Zc,by simp;omega,by simp;omega,λm H8 s8 hm=>⟨by decide,λq zq=>?_⟩⟩
  have g8:=(Zg.refl H8).upd (o:=.tup [V.int (ZkV (hgt (Zl T') ns) pr),V.ref m,v]) zq
  exact k1 q m v _ pr _ (s1.trans (sA.trans (s8.trans g8))) Zc (g8 _ _ hm) (hv.same (sA.trans (s8.trans g8))) hp
theorem ZiP {f:Addr}{fd:FuncData} (F:Fun K "pair_shows" "pair_shows" ZaD f fd) (Zb3:Callee P w K mg base "is_over" 2 ["tree","a","b"] (Zdu K mg)) (T:Txt K mg):FnOk P w K mg base (CXE P w) 3 f fd ["tree","heights","far","pair"] (ZcC K mg):=by
 refine F.okX ZcF (λvs H Q E h=>?_) (λcdv A outer s H vs Q E hr h=>?_)
 ·obtain⟨t,h,rfl,_⟩:=h;rfl
 obtain⟨t,h,rfl,k1⟩:=h
 refine⟨_,(Zd (ZO (Zn Za5 (pv 2) Ze (Zo _)) (Zf (Zt (ZaN ZoL (pv 3) Zgy (Zo _)))) ZE)
   (Zd (ZO (PW.pt (Zg3 (Zej (Zdd (Zh (ZM (K:=K) rfl) rfl T.b_isinstance Zu (Za (pv 3) (Za (Zht (v:=.ty "tuple") rfl T.b_tuple Zau rfl) Zb))))) (Zei (Zn Zkp (Zh (Zk (K:=K) rfl) rfl T.b_len Yq (Za (pv 3) Zb)) Ze (Zo _))))) (Zf (Zt Zeh)) ZE)
   (Zd (Zcx (pv 3) (Zhx (n:=2) rfl (ZY (Zr (i:=4) ZcF.nd rfl (Or.inl rfl)) (ZY (Zr (i:=5) ZcF.nd rfl (Or.inl rfl)) Zcn))))
   (Zf (Zt (Zdg (Zi Zb3 (hr.mono (by decide)) rfl Zx (Za (pv 0) (Za (pv 4) (Za (pv 5) Zb)))) (Zdf (ZaN (Zpi (K:=K) rfl) (Zs Zat (Zw Zz (pv 1) (pv 4) (λ_ _=>rfl)) (Zw Zz (pv 1) (pv 5) (λ_ _=>rfl))) (Zbx (Za (Zs Zbn Ze (pv 2)) (Za (Zs Zat (Zs Zbn Ze (pv 2)) Ze) Zb))) (by with_unfolding_all rfl))))))))),?_⟩
 walk_at "rd"
 exact k1 _
theorem ZgM {f:Addr}{fd:FuncData} (F:Fun K "nearest_right" "nearest_right" Z2 f fd) (Zb2:Callee P w K mg base "tree_of" 2 ["row"] (Zds K mg)) (ZX:Callee P w K mg base "flattest" 5 ["tree"] (Za1 K mg)) (ZA:Callee P w K mg base "heights_of" 1 ["flat","row"] (Zan K mg)) (ZdB:Callee P w K mg base "pair_shows" 3 ["tree","heights","far","pair"] (ZcC K mg)) (T:Txt K mg):FnOk P w K mg base (CXE P w) 6 f fd ["tree","row","far","made","pair"] (Zbi K mg):=by
 refine F.okX Zbl (λvs H Q E h=>?_) (λcdv A outer s H vs Q E hr h=>?_)
 ·obtain⟨t,r,m,T,ns,ms,rfl,_⟩:=h;rfl
 obtain⟨t,r,m,T',ns,ms,rfl,ht,hr1,hm,n1,n2,hml,k0,kN,kU⟩:=h
 refine⟨_,(Zd (Zp (i:=5) Zbl.nd rfl (Or.inl rfl) (Zi ZA (hr.mono (by decide)) rfl ZaO (Za (Zi ZX (hr.mono (by decide)) rfl ZaO (Za (pv 0) Zb)) (Za (pv 1) Zb))))
   (Zd (ZO (Zn (op_neD (K:=K) rfl hr) (Zi Zb2 (hr.mono (by decide)) rfl Zx (Za (pv 3) Zb)) (pv 0) (Zo _)) (Zf (Zt Zeh)) ZE)
   (Zd (Zp (i:=6) Zbl.nd rfl (Or.inl rfl) (Zh (Zo9 (K:=K) rfl rfl) rfl T.b_all bt_all (Za (Zaj ["number","other","far"] [none,none,some 2] rfl rfl rfl (ZjR (K:=K) rfl rfl T.b_zip (Za (pv 3) (Za (pv 1) Zb))) (λ_ _ _ _ _=>(ZjJ (K:=K) (n:=2) rfl rfl (ZY (Zr (i:=0) (show(["number","other","far"]:List Str).Nodup from by decide +kernel) rfl (Or.inl rfl)) (ZY (Zr (i:=1) (show(["number","other","far"]:List Str).Nodup from by decide +kernel) rfl (Or.inl rfl)) Zcn)))) (λ_ _ _ _ _=>Zaa) (λ_ _ _ _ _=>(ZaN Zi2 (Zh ZoM rfl T.b_abs bt_abs (Za (Zs Zat (pv 0) (pv 1)) Zb)) (pv 2) (Zo _))) (ZhC (ZbW Zy (ZbW Zy ZhB)))) Zb)))
   (Zf (Zt (Zdg (pv 6) (Zdf (Zi ZdB (hr.mono (by decide)) rfl Zx (Za (pv 0) (Za (pv 5) (Za (pv 2) (Za (pv 4) Zb)))))))))))),?_⟩
 have eF:(Zl T').length=T'.length:=Zak T'
 walk_at "rd"
 by_cases hG:ZI T'
 case neg=>exact⟨t,T',rfl,ht,n1,λz=>absurd z hG,λz H1 s1=>kN hG H1 s1⟩
 have h40:=hG.1
 refine⟨t,T',rfl,ht,by omega,λ_ fl H1 s1 hfl=>?_,λz=>absurd hG z⟩
 refine⟨fl,r,Zl T',ns,rfl,hfl,s1.q hr1,by omega,by omega,λhl hh H2 zh s2 hhh=>?_,λz H2 s2=>kU hG (λy=>z (by omega)) H2 (s1.trans s2)⟩
 rw[eF]at hl
 have k1:=k0 hG hl
 refine⟨m,ms,rfl,(s1.trans s2).q hm,hml,λt2 es H3 hE s3 ht2=>⟨t2,rfl,?_⟩⟩
 have s13:=s1.trans (s2.trans s3)
 have e3:=ZjN (n:=2) (K:=K) (H:=H3) Zf0 (V.ref t2) (V.ref t) es T' (Zc0 (SqT.of ht2)) (Zc0 (SqT.of (s13 _ _ ht)))
 refine⟨_,e3,ZF (λz=>k1 false H3 s13) λz=>?_⟩
 have ee:es=T':=YV (by simpa using z)
 subst ee
 obtain⟨tm,bm⟩:=SqB.of (s13.q hm)
 obtain⟨tr,br⟩:=SqB.of (s13.q hr1)
 have eN:=hE.1
 refine⟨tm,tr,_,bm,_,br,?_⟩
 refine comp_map (n:=es.length) (λk=>V.bl (decide ((if nth ms k-nth ns k<0 then -(nth ms k-nth ns k)else nth ms k-nth ns k)<=0))) (YE (show _<=1000 by omega) (by decide)) (λj Hz s hj=>⟨_,_,_,_,s.Zed bm,s.Zed br,Zez (by omega),Zez (by omega)⟩) (λHz s=>⟨_,_,s.Zed bm,s.Zed br,.inl (by rw[Yl];omega)⟩) ?_ ?_
 ·rintro k x Hz Hw hk sz ⟨q,x1,y1,zq,rfl,rfl,hx,hy⟩
  have ex:=hx _ (sz.Zed bm)
  have ey:=hy _ (sz.Zed br)
  rw[Zez (by omega)]at ex ey
  cases ex
  cases ey
  walk_at "rd"
  exact⟨_,SqT.of Zc,rfl,_,_,rfl,_,_,rfl,rfl,_,rfl,_,rfl,CW.next hk rfl (sz.ZT zq)⟩
 ·intro q Hz sz hq
  refine⟨q,rfl,(List.range es.length).map λk=>decide ((if nth ms k-nth ns k<0 then -(nth ms k-nth ns k)else nth ms k-nth ns k)<=0),SqL.of (by rw[Zc,Y2];rfl),?_⟩
  have g:=sz.ZT (o:=.lst ((List.range es.length).map λk=>V.bl (decide ((if nth ms k-nth ns k<0 then -(nth ms k-nth ns k)else nth ms k-nth ns k)<=0)))) hq
  exact ZF (λc=>⟨t,hh,rfl,λz=>k1 z _ (s13.trans g)⟩) λc=>k1 false _ (s13.trans g)
noncomputable def ZnO (j:Nat):List V:=(List.range 10).map λk=>V.bl (decide (k=j))
theorem ZpT {j:Nat} (hj:j<10):((ZnO j).countP λz=>decide (z=V.bl true))=1:=by
 unfold ZnO
 match j,hj with
 |0,_|1,_|2,_|3,_|4,_|5,_|6,_|7,_|8,_|9,_=>rfl
theorem ZpU {j:Nat}:∀z∈ZnO j,∃b,z=V.bl b:=λz hz=>by
 obtain⟨k,_,rfl⟩:=YQ.mp hz
 exact⟨_,rfl⟩
theorem ZrF {i j:Nat} (hi:i<10):atI (ZnO j) (i:Int)=some (V.bl (decide (i=j))):=by
 unfold ZnO
 match i,hi with
 |0,_|1,_|2,_|3,_|4,_|5,_|6,_|7,_|8,_|9,_=>rfl
theorem ZiQ {f:Addr}{fd:FuncData} (F:Fun K "_law_alone" "_law_alone" ZaG f fd) (T:Txt K mg):FnOk P w K mg base (CXE P w) 1 f fd ["e","place"] (ZcD K mg):=by
 refine F.okX Zfi (λvs H Q E h=>?_) (λcdv A outer s H vs Q E hr h=>?_)
 ·obtain⟨e,C,i,j,rfl,_⟩:=h;rfl
 obtain⟨e,C,i,j,rfl,hi,hj,he,Z,k1⟩:=h
 refine⟨_,(Zd (Zp (i:=2) Zfi.nd rfl (Or.inl rfl) (ZaJ (Za (Zh (ZM (K:=K) rfl) rfl T.b_isinstance Zu (Za (pv 0) (Za (Zax (v:=.ref (clsAt mg "Unlike")) rfl T.c_Unlike rfl) Zb))) (Za (Zh (ZM (K:=K) rfl) rfl T.b_isinstance Zu (Za (pv 0) (Za (Zax (v:=.ref (clsAt mg "Empty")) rfl T.c_Empty rfl) Zb))) (Za (Zh (ZM (K:=K) rfl) rfl T.b_isinstance Zu (Za (pv 0) (Za (Zax (v:=.ref (clsAt mg "TooMany")) rfl T.c_TooMany rfl) Zb))) (Za (Zh (ZM (K:=K) rfl) rfl T.b_isinstance Zu (Za (pv 0) (Za (Zax (v:=.ref (clsAt mg "NoTree")) rfl T.c_NoTree rfl) Zb))) (Za (Zh (ZM (K:=K) rfl) rfl T.b_isinstance Zu (Za (pv 0) (Za (Zax (v:=.ref (clsAt mg "NoTelling")) rfl T.c_NoTelling rfl) Zb))) (Za (Zh (ZM (K:=K) rfl) rfl T.b_isinstance Zu (Za (pv 0) (Za (Zax (v:=.ref (clsAt mg "NoPlace")) rfl T.c_NoPlace rfl) Zb))) (Za (Zh (ZM (K:=K) rfl) rfl T.b_isinstance Zu (Za (pv 0) (Za (Zax (v:=.ref (clsAt mg "NoNumber")) rfl T.c_NoNumber rfl) Zb))) (Za (Zh (ZM (K:=K) rfl) rfl T.b_isinstance Zu (Za (pv 0) (Za (Zax (v:=.ref (clsAt mg "NoPast")) rfl T.c_NoPast rfl) Zb))) (Za (Zh (ZM (K:=K) rfl) rfl T.b_isinstance Zu (Za (pv 0) (Za (Zax (v:=.ref (clsAt mg "NoText")) rfl T.c_NoText rfl) Zb))) (Za (Zh (ZM (K:=K) rfl) rfl T.b_isinstance Zu (Za (pv 0) (Za (Zax (v:=.ref (clsAt mg "NoLine")) rfl T.c_NoLine rfl) Zb))) Zb))))))))))))
   (Zd (ZO (PW.pt (Zg3 (Zej (Zdd (Zh (ZM (K:=K) rfl) rfl T.b_isinstance Zu (Za (pv 0) (Za (Zax (v:=.ref (clsAt mg "DipError")) rfl T.c_DipError rfl) Zb))))) (Zei (Zej (Zdd (Zh (ZM (K:=K) rfl) rfl T.b_isinstance Zu (Za (pv 0) (Za (Zht (v:=.ty "ValueError") rfl T.b_ValueError ZiD rfl) Zb)))))))) (Zf (Zt Zeh)) ZE)
   (Zf (Zt (Zdg (ZaN Za5 (Zd7 PySem.F.plainAttrs_list PySem.F.slot_list_count PySem.F.type_list_count Zo1 (pv 2) (Za Zeh Zb)) Ze (Zo _)) (Zdf (Zw Zz (pv 2) (pv 1) (λ_ _=>rfl)))))))),?_⟩
 refine ZaL (fun σ Hx=>∃p,σ=[some (.ref e),some (.int (i:Int)),some (.ref p)]/\Hx p=some (.lst (ZnO j))/\Zg H Hx) (λR hR=>?_) ?_
 ·walk_at "rd"
  exact⟨_,tyE he Z.z Z.k0,_,tyE he Z.z Z.k1,_,tyE he Z.z Z.k2,_,tyE he Z.z Z.k3,_,tyE he Z.z Z.k4,_,tyE he Z.z Z.k5,_,tyE he Z.z Z.k6,_,tyE he Z.z Z.k7,_,tyE he Z.z Z.k8,_,tyE he Z.z Z.k9,by decide,λp hp=>hR _ _ ⟨p,rfl,Zc,(Zg.refl H).upd hp⟩⟩
 rintro σ H1 ⟨p,rfl,hp,s1⟩
 replace he:=s1 _ _ he
 refine ZaL (fun σ Hx=>σ=[some (.ref e),some (.int (i:Int)),some (.ref p)]/\Hx=H1) (λR hR=>?_) ?_
 ·walk_at "rd"
  refine⟨_,tyE he Z.z Z.kd,?_⟩
  walk_at "rd"
  refine⟨_,tyE he Z.z Z.kv,?_⟩
  walk_at "rd"
  exact hR _ _ ⟨rfl,rfl⟩
 rintro σ H2 ⟨rfl,rfl⟩
 walk_at "rd"
 refine⟨Zai hp,_,hp,⟨_,rfl⟩,ZpU,?_⟩
 rw[ZpT hj]
 exact ZF (λ_=>⟨_,SqL.of hp,_,ZrF hi,k1 _ s1⟩) λz=>absurd rfl z
theorem Zk5 {ns T:List Int} (hT:ZQ ns T) {p:Nat} (hp:p<T.length):(nth T p=-1/\way T p=[])\/∃q:Nat,nth T p=q/\q<T.length/\way T p=q::way T q:=by
 have e:=hT.1
 rcases ZS hT (p:=p) (by omega)with z|⟨q,z,hq,_,_⟩
 ·exact .inl ⟨z,Zf9 z⟩
 ·exact .inr ⟨q,z,by omega,Zb8 hT (by omega) z⟩
theorem way_dp {ns T:List Int} (hT:ZQ ns T) {a:Nat}:∀(k b:Nat),b<T.length->(way T b).length<=k->a∈way T b->(way T a).length<(way T b).length:=by
 intro k
 induction k with
 |zero =>
  intro b hb hk h
  have:way T b=[]:=List.length_eq_zero_iff.mp (by omega)
  rw[this]at h;cases h
 |succ k ih =>
  intro b hb hk h
  rcases Zk5 hT hb with⟨_,e⟩|⟨q,_,hq,e⟩
  ·rw[e]at h;cases h
  ·rw[e,YM]at hk⊢
   rw[e]at h
   rcases Ym.mp h with rfl|h
   ·omega
   ·have:=ih q hq (by omega) h
    omega
theorem nd_few {L:List Nat}{n:Nat} (nd:L.Nodup) (h:∀q∈L,q<n):L.length<=n:=by
 have pm:L.Perm ((List.range n).filter λx=>decide (x∈L)):=(List.perm_ext_iff_of_nodup nd (List.nodup_range.filter _)).mpr λx=>by
  rw[YU]
  exact⟨λz=>⟨YF.mpr (h x z),YC z⟩,λz=>YV z.2⟩
 have l2:=Ja (λx=>decide (x∈L)) (List.range n)
 rw[Jc,<-pm.length_eq]at l2
 exact l2
theorem way_nd {nsT T:List Int} (hT:ZQ nsT T):∀k b,b<T.length->(way T b).length<=k->(way T b).Nodup/\b∉way T b:=by
 have e:=hT.1
 intro k
 induction k with
 |zero =>
  intro b hb hk
  have:way T b=[]:=List.length_eq_zero_iff.mp (by omega)
  rw[this];simp
 |succ k ih =>
  intro b hb hk
  rcases Zk5 hT hb with⟨_,z⟩|⟨q,_,hq,z⟩
  ·rw[z];simp
  ·rw[z,YM]at hk
   obtain⟨h1,h2⟩:=ih q hq (by omega)
   have nb:b∉q::way T q:=λy=>by
    have:=way_dp hT _ b hb (Yf _) (z▸y)
    omega
   rw[z]
   exact⟨List.nodup_cons.mpr ⟨h2,h1⟩,nb⟩
theorem Zhn {f:Addr}{fd:FuncData} (F:Fun K "_law_is_tree" "_law_is_tree" Zad f fd) (Za3:Callee P w K mg base "_law_tree" 2 ["row"] (ZbM K mg)) (T:Txt K mg):FnOk P w K mg base (CXE P w) 3 f fd ["tree"] (ZbD K mg):=by
 refine F.okX Z4 (λvs H Q E h=>?_) (λcdv A outer s H vs Q E hr h=>?_)
 ·obtain⟨t,T,rfl,_⟩:=h;rfl
 obtain⟨t,T',rfl,ht,hn,k1⟩:=h
 refine⟨_,(Zd (ZO (Zn Zd6 (Zh (Zk (K:=K) rfl) rfl T.b_len Yq (Za (pv 0) Zb)) Ze (Zo _)) (Zf (Zt Zeh)) ZE)
   (Zd (Zp (i:=1) Z4.nd rfl (Or.inl rfl) (ZaJ Zb))
   (Zd (Zbz (Zdi PassesOwn.never rfl (ZL rfl T.b_range (Za (Zh (Zk (K:=K) rfl) rfl T.b_len Yq (Za (pv 0) Zb)) Zb)) (Zr (i:=2) Z4.nd rfl (Or.inr rfl)) (Zd (Zp (i:=3) Z4.nd rfl (Or.inl rfl) (Zw Za6 (pv 0) (pv 2) (λ_ _=>rfl)))
   (Zd (Zp (i:=4) Z4.nd rfl (Or.inl rfl) (ZaJ Zb))
   (Zd (Zbz (Zhy PassesOwn.never (PW.pt (Zfo (Zks Zi2 Zeo Ze (pv 3) (Zh (Zk (K:=K) rfl) rfl T.b_len Yq (Za (pv 0) Zb))) (Zde (Zn (Znn (K:=K) rfl) (pv 3) (pv 4) (by with_unfolding_all rfl))))) (Zd (ZaM (Zd7 PySem.F.plainAttrs_list PySem.F.slot_list_append PySem.F.type_list_append Zay (pv 4) (Za (pv 3) Zb)))
   (Zf (Zp (i:=3) Z4.nd rfl (Or.inl rfl) (Zw Za6 (pv 0) (pv 3) (λ_ _=>rfl)))))))
   (Zd (ZO (Zn Zkp (pv 3) (Zd5 Zbw Ze) (Zo _)) (Zf (Zt Zeh)) ZE)
   (Zf (ZaM (Zd7 PySem.F.plainAttrs_list PySem.F.slot_list_append PySem.F.type_list_append Zay (pv 1) (Za (Zh (Zk (K:=K) rfl) rfl T.b_len Yq (Za (Zaj ["other","place"] [none,some 2] rfl rfl rfl (Zdh (pv 4)) (λ_ _ _ _ _=>(Zr (i:=0) (show(["other","place"]:List Str).Nodup from by decide +kernel) rfl (Or.inl rfl))) (λ_ _ _ _ _=>ZcZ (Zn Zd6 (pv 0) (pv 1) (Zo _))) (λ_ _ _ _ _=>(pv 0)) Zy) Zb)) Zb))))))))))
   (Zf (Zt (ZaN (Zfq (K:=K) rfl hr) (Zi Za3 (hr.mono (by decide)) rfl Zx (Za (pv 1) Zb)) (Z9 (ZaT (K:=K) rfl) rfl T.b_tuple Zau (Za (pv 0) Zb)) (Zo _))))))),?_⟩
 walk_at "rd"
 have eL:(T'.map V.int).length=T'.length:=Yl ..
 refine⟨_,.inr (SqT.of ht),ZF (λz=>k1 _ _ (Zg.refl H) ⟨(λy=>nomatch y),λg=>by have:=g.1;rw[eL]at z;omega⟩) λz=>⟨Yt _,λf hf=>?_⟩⟩
 rw[eL]at z
 have g0:=(Zg.refl H).upd (o:=.lst []) hf
 refine⟨_,.inr (SqT.of (g0 _ _ ht)),by omega,by rw[eL];omega,?_⟩
 rw[show(((T'.map V.int).length:Nat):Int).toNat=T'.length by rw[eL];omega]
 have h0:=Zc (H:=H) (a:=f) (o:=.lst [])
 generalize upd H f (.lst [])=H0 at g0 h0⊢
 refine Zbd (λi σ Hx=>∃(v2 v3 v4:Option V) (F:List Int),σ=[some (.ref t),some (.ref f),v2,v3,v4]/\F.length=i/\(ZI T'->∀j,j<i->nth F j=Za8 T' j)/\Hx f=some (.lst (F.map V.int))/\Zg H Hx) ⟨none,none,none,[],rfl,rfl,(λ_ j hj=>absurd hj (by omega)),h0,g0⟩ ?_ ?_
 ·rintro i σ Hx hi ⟨v2,v3,v4,F,rfl,hFl,hF,hxf,sx⟩
  rw[show(0:Int)+(i:Int)=(i:Int) by omega]
  refine ZaL (fun σ Hy=>σ=[some (.ref t),some (.ref f),some (.int (i:Int)),some (.int (nth T' i)),v4]/\Hy=Hx) (λR hR=>?_) ?_
  ·walk_at "rd"
   exact⟨_,SqT.of (sx _ _ ht),_,ZN hi,hR _ _ ⟨rfl,rfl⟩⟩
  rintro σ Hy ⟨rfl,rfl⟩
  refine ZaL (fun σ Hz=>∃w:Addr,σ=[some (.ref t),some (.ref f),some (.int (i:Int)),some (.int (nth T' i)),some (.ref w)]/\H w=none/\w≠f/\Hz w=some (.lst [])/\Hz f=some (.lst (F.map V.int))/\Zg H Hz) (λR hR=>?_) ?_
  ·walk_at "rd"
   refine⟨Yt _,λw hw=>hR _ _ ⟨w,rfl,sx.free hw,(Zv hxf hw).symm,Zc,((Zg.refl Hy).upd hw) _ _ hxf,sx.ZT hw⟩⟩
  clear sx hxf
  rintro σ Hz ⟨w,rfl,zw,nwf,hw0,hxf0,sx0⟩
  refine ZaL (fun σ Hx=>∃(h:Int) (L:List Nat),σ=[some (.ref t),some (.ref f),some (.int (i:Int)),some (.int h),some (.ref w)]/\L.length<=T'.length/\(ZI T'->h=-1/\L=way T' i)/\Hx w=some (.lst (ZC L))/\Hx f=some (.lst (F.map V.int))/\Zg H Hx) (λR hR=>?_) ?_
  ·walk_at "rd"
   refine Zrt (λm σ Hx=>∃(h:Int) (L:List Nat),m+L.length=T'.length+1/\L.Nodup/\(∀q∈L,q<T'.length)/\((∃ns,ZQ ns T')->∃q,q<T'.length/\h=nth T' q/\L++way T' q=way T' i)/\Hx w=some (.lst (ZC L))/\Hx f=some (.lst (F.map V.int))/\Zg H Hx/\σ=[some (.ref t),some (.ref f),some (.int (i:Int)),some (.int h),some (.ref w)]) (T'.length+1) ⟨nth T' i,[],by simp,List.Pairwise.nil,(λq hq=>nomatch hq),(λ_=>⟨i,hi,rfl,rfl⟩),hw0,hxf0,sx0,rfl⟩ ?_
   rintro m σ Hx ⟨h,L,hm,hnd,hLt,hq,hxw,hxf,sx,rfl⟩
   have hLl:=nd_few hnd hLt
   have hend:¬ (0<=h/\h<(T'.length:Int)/\¬ h.toNat∈L)->ZI T'->h=-1/\L=way T' i:=λz1 g=>by
    obtain⟨q,q1,q2,q3⟩:=hq g.2
    obtain⟨_,ns,hT⟩:=g
    have e:=hT.1
    rcases ZS hT (by omega:q<ns.length)with y|⟨r,y,hr2,_⟩
    ·rw[Zf9 y,List.append_nil]at q3
     exact⟨by omega,q3⟩
    ·exfalso
     refine z1 ⟨by omega,by omega,λhin=>?_⟩
     have nd:=(way_nd hT _ i (by omega) (Yf _)).1
     rw[<-q3,Zb8 hT (by omega) y]at nd
     rw[show h.toNat=r by omega]at hin
     exact(List.nodup_append.mp nd).2.2 r hin r (by simp) rfl
   walk_at "rd"
   have eI:inV (V.int h) (ZC L)=decide (h∈L.map λ(q:Nat)=>(q:Int)):=by rw[ZhK,ZmN]
   have out:¬ (0<=h/\h<(T'.length:Int)/\¬ h.toNat∈L)->R [some (V.ref t),some (V.ref f),some (V.int (i:Int)),some (V.int h),some (V.ref w)] Hx:=λz1=>hR _ _ ⟨h,L,rfl,hLl,hend z1,hxw,hxf,sx⟩
   refine ZF (λc0=>⟨_,.inr (SqT.of (sx _ _ ht)),ZF (λc1=>⟨_,.inl (SqL.of hxw),rfl,by rw[ZhK];exact Zjd _,ZF (λc2=>?_) λc2=>?_⟩) λc1=>out λz1=>c1 (by rw[eL];exact z1.2.1)⟩) λc0=>out λz1=>c0 z1.1
   ·rw[eI]at c2
    rw[eL]at c1
    have c3:=of_decide_eq_false c2
    obtain⟨j,rfl⟩:=YZ c0
    have hj:j∉L:=λy=>c3 (YQ.mpr ⟨j,y,rfl⟩)
    have ntw:t≠w:=Zv ht zw
    refine⟨_,fun σ' H' z=>z,Zai hxw,_,hxw,YE (show _<=2000 by rw[ZR];omega) (by decide),_,SqT.of (by rw[Zj ntw];exact sx _ _ ht),_,ZN (by omega),m-1,by omega,nth T' j,L++[j],by simp;omega,?_,?_,λg=>?_,?_,by rw[Zj nwf.symm];exact hxf,sx.upd zw,rfl⟩
    ·refine List.nodup_append.mpr ⟨hnd,by simp,λa ha b hb e=>?_⟩
     rw[Y0]at hb
     exact hj (by rw[<-hb,<-e];exact ha)
    ·intro q hq2
     rcases Yy.mp hq2 with y|y
     ·exact hLt q y
     ·rw[Y0.mp y];omega
    ·obtain⟨q,q1,q2,q3⟩:=hq g
     obtain⟨ns,hT⟩:=g
     have e:=hT.1
     refine⟨j,by omega,rfl,?_⟩
     rw[<-q3,Zb8 hT (by omega) q2.symm];simp
    ·rw[Zc,Zc1];rfl
   ·refine out λz1=>c2 ?_
    rw[eI]
    refine YJ λy=>?_
    obtain⟨q,hq2,e⟩:=YQ.mp y
    exact z1.2.2 (by rw[show h.toNat=q by omega];exact hq2)
  clear hw0 hxf0 sx0
  rintro σ Hx ⟨h,L,rfl,hLl,hend,hxw,hxf,sx⟩
  walk_at "rd"
  refine ZF (λc=>k1 false Hx sx ⟨(λy=>nomatch y),λg=>absurd (hend g).1 c⟩) λc=>⟨Zai hxf,⟨_,SqL.of hxw⟩,?_⟩
  refine Zc2 (n:=L.length) (λk=>decide (i<L.getD k 0)) (λk=>V.int (L.getD k 0:Nat)) (YE (show _<=1000 by omega) (by decide)) (λk Hz s hk=>⟨_,_,SqL.of (s _ _ hxw),Yh (by rw[ZR];exact hk)⟩) (λHz s=>⟨_,SqL.of (s _ _ hxw),Y5 (ZR L)⟩) ?_ ?_
  ·rintro k x Hz Hw hk s ⟨rfl,hx⟩
   have ex:=hx _ (SqL.of (s _ _ hxw))
   have ed:(ZC L)[k]?=some (V.int (L.getD k 0:Nat)):=by simp[ZC,Yp,hk]
   rw[ed]at ex
   cases ex
   walk_at "rd"
   exact ZF (λz=>CF.take hk (YC (by omega)) rfl s) λz=>CF.skip hk (YJ (by omega)) s
  ·intro l2 Hz s hl2
   have g:=s.ZT (o:=.lst (((List.range L.length).filter λk=>decide (i<L.getD k 0)).map λk=>V.int (L.getD k 0:Nat))) hl2
   have ec:(((List.range L.length).filter λk=>decide (i<L.getD k 0)).map λk=>V.int (L.getD k 0:Nat)).length=(L.filter λo=>decide (i<o)).length:=by
    rw[Yl,<-List.countP_eq_length_filter,<-List.countP_eq_length_filter]
    conv=>rhs;rw[show L=(List.range L.length).map λk=>L.getD k 0 from List.ext_getElem (by simp) λk k1 k2=>by simp[Yp,k1]]
    rw[List.countP_map];rfl
   refine⟨l2,rfl,_,.inl (SqL.of Zc),_,g _ _ hxf,YE (show _<=1000 by rw[Yl];omega) (by decide),F++[((L.filter λo=>decide (i<o)).length:Int)],by simp[hFl],λgd j hj=>?_,by rw[ec,Zc];simp,(sx.trans g).upd hf⟩
   by_cases e:j<i
   ·rw[show nth (F++[((L.filter λo=>decide (i<o)).length:Int)]) j=nth F j by simp[nth,Yp,Y4 (show j<F.length by omega)]]
    exact hF gd j e
   ·have:j=i:=by omega
    subst this
    rw[show nth (F++[((L.filter λo=>decide (j<o)).length:Int)]) j=((L.filter λo=>decide (j<o)).length:Int) by simp[nth,Yp,<-hFl],(hend gd).2]
    rfl
 ·rintro σ Hx ⟨v2,v3,v4,F,rfl,hFl,hF,hxf,sx⟩
  walk_at "rd"
  refine⟨f,F,rfl,.inl (SqL.of hxf),by omega,λt2 es H1 hT s1 ht2=>⟨_,.inr ⟨SqT.of ((sx.trans s1) _ _ ht),t2,rfl,_,ZjN (n:=2) Zf0 _ _ es T' (Zc0 (SqT.of ht2)) (Zc0 (SqT.of ((sx.trans s1) _ _ ht))),k1 _ _ (sx.trans s1) ?_⟩⟩⟩
  rw[decide_eq_true_iff]
  refine⟨λe=>⟨by omega,F,by rw[<-e];exact hT⟩,λg=>?_⟩
  have eF:F=Zl T':=by
   refine List.ext_getElem (by rw[Zak];omega) λk a1 a2=>?_
   have:=hF g k (by omega)
   rw[show nth F k=F[k] by simp[nth,Yp,a1]]at this
   rw[this];simp[Zl]
  rw[eF]at hT
  obtain⟨_,ns,hT2⟩:=g
  exact hT.unique (Znt hT2)
theorem Zj9 {f:Addr}{fd:FuncData} (F:Fun K "_law_bent" "_law_bent" ZaZ f fd) (Zm:Callee P w K mg base "_law_take" 1 ["pot","many"] (Zag K mg)) (T:Txt K mg):FnOk P w K mg base (CXE P w) 2 f fd ["pot","tree"] (Zdv K mg):=by
 refine F.okX Za9 (λvs H Q E h=>?_) (λcdv A outer s H vs Q E hr h=>?_)
 ·obtain⟨p,t,T,rfl,_⟩:=h;rfl
 obtain⟨p,t,T',rfl,hP,ht,hn,k1⟩:=h
 refine⟨_,(Zd (Zp (i:=2) Za9.nd rfl (Or.inl rfl) (Z9 (Zfp (K:=K) rfl) rfl T.b_list ZjH (Za (pv 1) Zb)))
   (Zd (Zp (i:=3) Za9.nd rfl (Or.inl rfl) (Zi Zm (hr.mono (by decide)) rfl Zx (Za (pv 0) (Za Ze Zb))))
   (Zd (ZO (PW.pt (Zg3 (Zn Za5 (pv 3) Ze (Zo _)) (Zei (Zn (Zfq (K:=K) rfl hr) (pv 2) (ZaJ Zb) (Zo _))))) (Zf (Zt (Zs (ZjT (K:=K) rfl) (pv 2) (ZaJ (Za (Zs Zat (Zi Zm (hr.mono (by decide)) rfl Zx (Za (pv 0) (Za (Zs Za4 (Zh (Zk (K:=K) rfl) rfl T.b_len Yq (Za (pv 2) Zb)) Ze) Zb))) Ze) Zb))))) ZE)
   (Zd (Zp (i:=4) Za9.nd rfl (Or.inl rfl) (Zi Zm (hr.mono (by decide)) rfl Zx (Za (pv 0) (Za (Zh (Zk (K:=K) rfl) rfl T.b_len Yq (Za (pv 2) Zb)) Zb))))
   (Zd (ZO (Zn Za5 (pv 3) Ze (Zo _)) (Zf (Zt (Zs (ZjT (K:=K) rfl) (ZcX ZfV (pv 2) Ze0 (Ze1 (pv 4))) (ZcX ZfV (pv 2) (Ze1 (Zs Za4 (pv 4) Ze)) Ze0)))) ZE)
   (Zd (ZO (Zn Za5 (pv 3) Ze (Zo _)) (Zd (Zp (i:=5) Za9.nd rfl (Or.inl rfl) (Zi Zm (hr.mono (by decide)) rfl Zx (Za (pv 0) (Za (Zh (Zk (K:=K) rfl) rfl T.b_len Yq (Za (pv 2) Zb)) Zb))))
   (Zf (Zcx (Zbx (Za (Zw Zz (pv 2) (pv 5) (λ_ _=>rfl)) (Za (Zw Zz (pv 2) (pv 4) (λ_ _=>rfl)) Zb))) (Zhx (n:=2) rfl (ZY (Zel (pv 2) (pv 4) set_list (λ_=>rfl)) (ZY (Zel (pv 2) (pv 5) set_list (λ_=>rfl)) Zcn)))))) (Zf (ZO (Zn Za5 (pv 3) Ze (Zo _)) (Zf (Zcx (Zw Za6 (Zbx (Za (Zd5 Zbw Ze) (Za (Zd5 Zbw Ze) (Za (Zh (Zk (K:=K) rfl) rfl T.b_len Yq (Za (pv 2) Zb)) (Za (Zs Zen Ze Ze) (Za (pv 4) Zb)))))) (Zi Zm (hr.mono (by decide)) rfl Zx (Za (pv 0) (Za Ze Zb))) (λ_ _=>rfl)) (Zel (pv 2) (pv 4) set_list (λ_=>rfl)))) (Zf (Zcx (Zi Zm (hr.mono (by decide)) rfl Zx (Za (pv 0) (Za (Zh (Zk (K:=K) rfl) rfl T.b_len Yq (Za (pv 2) Zb)) Zb))) (Zel (pv 2) (pv 4) set_list (λ_=>rfl)))))))
   (Zf (Zt (pv 2))))))))),?_⟩
 have ntp:t≠p:=λz=>by
  obtain⟨_,hz,_⟩:=hP
  rw[<-z,ht]at hz;cases hz
 refine ZaL (fun σ Hx=>∃l:Addr,σ=[some (.ref p),some (.ref t),some (.ref l),none,none,none]/\H l=none/\l≠p/\Hx l=some (.lst (T'.map V.int))/\ZD Hx p/\Zg H Hx) (λR hR=>?_) ?_
 ·walk_at "rd"
  exact⟨_,.inr (SqT.of ht),λl hl=>hR _ _ ⟨l,rfl,hl,hP.ne hl,Zc,hP.upd hl,(Zg.refl H).upd hl⟩⟩
 rintro σ H1 ⟨l,rfl,zl,nlp,hl,P1,s1⟩
 refine ZaL (fun σ Hx=>∃w:Int,σ=[some (.ref p),some (.ref t),some (.ref l),some (.int w),none,none]/\0<=w/\w<6/\Hx l=some (.lst (T'.map V.int))/\ZD Hx p/\Exc p H Hx) (λR hR=>?_) ?_
 ·walk_at "rd"
  exact⟨p,_,rfl,by decide,by decide,P1,λd H2 d0 d1 P2 e2=>hR _ _ ⟨d,rfl,d0,d1,e2 _ _ nlp hl,P2,s1.Zbv.trans e2⟩⟩
 clear s1 P1 hl
 rintro σ H1 ⟨w,rfl,w0,w1,hl,P1,e1⟩
 have eL:(T'.map V.int).length=T'.length:=Yl ..
 have add:∀(H2:Hp),H2 l=some (.lst (T'.map V.int))->ZD H2 p->Exc p H H2->∀(i:Int),0+1<=sizeLine/\∀(q:Addr),H2 q=none->∃x,SqL K (upd H2 q (.lst [V.int (i-1)])) l x/\∃x_1,SqL K (upd H2 q (.lst [V.int (i-1)])) q x_1/\x.length+x_1.length<=sizeLine/\∀(u:Addr),upd H2 q (.lst [V.int (i-1)]) u=none->Q (V.ref u) (upd (upd H2 q (.lst [V.int (i-1)])) u (.lst (x++x_1))):=λH2 hl2 P2 e2 i=>by
  refine⟨by decide,λq hq=>⟨_,SqL.of (((Zg.refl H2).upd hq) _ _ hl2),_,SqL.of Zc,Yn (show _<=1000 by rw[eL];simp;omega) (by decide),λu hu=>?_⟩⟩
  have g:=((Zg.refl H2).upd (o:=.lst [V.int (i-1)]) hq).ZT (o:=.lst (T'.map V.int++[V.int (i-1)])) hu
  exact k1 u (T'++[i-1]) _ (by rw[Zc,YX];rfl) (by simp) (P2.same g) (e2.trans g.Zbv)
 refine ZaL (fun σ Hx=>σ=[some (.ref p),some (.ref t),some (.ref l),some (.int w),none,none]/\0<T'.length/\Hx l=some (.lst (T'.map V.int))/\ZD Hx p/\Exc p H Hx) (λR hR=>?_) ?_
 ·walk_at "rd"
  refine ZF (λc=>?_) λc=>⟨Yt _,λq hq=>?_⟩
  ·exact⟨_,.inl (SqL.of hl),p,_,rfl,by omega,by rw[eL];omega,P1,λd H2 d0 d1 P2 e2=>⟨d,rfl,add H2 (e2 _ _ nlp hl) P2 (e1.trans e2) d⟩⟩
  have g:=(Zg.refl H1).upd (o:=.lst []) hq
  have eqE:=ZmJ (n:=2) (K:=K) (H:=upd H1 q (.lst [])) Zf0 (V.ref l) (V.ref q) T' [] (Zf1 (SqL.of (g _ _ hl))) (Zf1 (ns:=[]) (SqL.of Zc))
  refine⟨_,eqE,ZF (λc2=>?_) λc2=>hR _ _ ⟨rfl,?_,g _ _ hl,P1.same g,e1.trans g.Zbv⟩⟩
  ·exact⟨_,.inl (SqL.of (g _ _ hl)),p,_,rfl,by omega,by rw[eL];omega,P1.same g,λd H2 d0 d1 P2 e2=>⟨d,rfl,add H2 (e2 _ _ nlp (g _ _ hl)) P2 ((e1.trans g.Zbv).trans e2) d⟩⟩
  ·have:T'≠[]:=λz=>c2 (YC z)
   exact List.length_pos_iff.mpr this
 clear P1 hl e1
 rintro σ H1 ⟨rfl,hpos,hl,P1,e1⟩
 refine ZaL (fun σ Hx=>∃a:Nat,σ=[some (.ref p),some (.ref t),some (.ref l),some (.int w),some (.int (a:Int)),none]/\a<T'.length/\Hx l=some (.lst (T'.map V.int))/\ZD Hx p/\Exc p H Hx) (λR hR=>?_) ?_
 ·walk_at "rd"
  refine⟨_,.inl (SqL.of hl),p,_,rfl,by rw[eL];omega,by rw[eL];omega,P1,λd H2 d0 d1 P2 e2=>?_⟩
  obtain⟨a,rfl⟩:=YZ d0
  exact hR _ _ ⟨a,rfl,by rw[eL]at d1;omega,e2 _ _ nlp hl,P2,e1.trans e2⟩
 clear P1 hl e1
 rintro σ H1 ⟨a,rfl,ha,hl,P1,e1⟩
 refine ZaL (fun σ Hx=>σ=[some (.ref p),some (.ref t),some (.ref l),some (.int w),some (.int (a:Int)),none]/\Hx=H1) (λR hR=>?_) ?_
 ·walk_at "rd"
  refine ZF (λc=>⟨_,SqL.of hl,λq hq=>⟨_,SqL.of (((Zg.refl H1).upd hq) _ _ hl),λq2 hq2=>?_⟩⟩) λc=>hR _ _ ⟨rfl,rfl⟩
  rw[cut_to,show((a:Int)+1)=((a+1:Nat):Int) by omega,Zno]at *
  refine⟨_,SqL.of (((Zg.refl _).ZT hq2) _ _ Zc),_,SqL.of Zc,?_,λq3 hq3=>?_⟩
  ·exact Yn (show _<=1000 by simp;omega) (by decide)
  have g:=(((Zg.refl H1).upd (o:=.lst ((T'.map V.int).take a)) hq).ZT (o:=.lst ((T'.map V.int).drop (a+1))) hq2).ZT (o:=.lst ((T'.map V.int).take a++(T'.map V.int).drop (a+1))) hq3
  exact k1 q3 (T'.take a++T'.drop (a+1)) _ (by rw[Zc,YX,List.map_take,List.map_drop]) (by simp;omega) (P1.same g) (e1.trans g.Zbv)
 rintro σ Hx ⟨rfl,rfl⟩
 refine ZaL (fun σ Hx=>∃(v5:Option V) (U:List Int),σ=[some (.ref p),some (.ref t),some (.ref l),some (.int w),some (.int (a:Int)),v5]/\U.length=T'.length/\Hx l=some (.lst (U.map V.int))/\ZD Hx p/\Exc p H Hx) (λR hR=>?_) ?_
 ·walk_at "rd"
  have eu:∀(Hx:Hp) (o:HO),Exc p H Hx->Exc p H (upd Hx l o):=λHx o e c oc n z=>by rw[Zj (Zv z zl)];exact e c oc n z
  refine ZF (λc=>⟨_,.inl (SqL.of hl),p,_,rfl,by rw[eL];omega,by rw[eL];omega,P1,λd H2 d0 d1 P2 e2=>?_⟩) λc=>ZF (λc3=>⟨_,.inl (SqL.of hl),cp59,by decide,λq hq=>⟨p,_,rfl,by decide,by decide,P1.upd hq,λd H2 d0 d1 P2 e2=>?_⟩⟩) λc3=>⟨_,.inl (SqL.of hl),p,_,rfl,by rw[eL];omega,by rw[eL];omega,P1,λd H2 d0 d1 P2 e2=>?_⟩
  ·obtain⟨b,rfl⟩:=YZ d0
   have hb:b<T'.length:=by rw[eL]at d1;omega
   have hl2:=e2 _ _ nlp hl
   refine⟨_,_,rfl,SqL.of hl2,_,ZN hb,_,SqL.of hl2,_,ZN ha,by decide,λq hq=>?_⟩
   have g:=(Zg.refl H2).upd (o:=.tup [V.int (nth T' b),V.int (nth T' a)]) hq
   refine⟨_,SqT.of Zc,rfl,_,_,rfl,_,g _ _ hl2,a,by rw[eL];exact Zdm ha,_,_,rfl,_,_,rfl,Zc,b,by rw[List.length_set,eL];exact Zdm hb,rfl,?_⟩
   exact hR _ _ ⟨_,(T'.set a (nth T' b)).set b (nth T' a),rfl,by simp,by rw[Zc,List.map_set,List.map_set],((P2.upd hq).ZjO nlp).ZjO nlp,eu _ _ (eu _ _ ((e1.trans e2).trans g.Zbv))⟩
  ·have hq2:=e2 _ _ (P1.ne hq) Zc
   have g:=(Zg.refl Hx).upd (o:=.tup [V.int (-1),V.int (-2),V.int ((T'.map V.int).length:Nat),V.int (10 ^ Int.toNat 59),V.int (a:Int)]) hq
   obtain⟨v,hv,y,rfl⟩:=ZjK (xs:=[V.int (-1),V.int (-2),V.int ((T'.map V.int).length:Nat),V.int (10 ^ Int.toNat 59),V.int (a:Int)]) (i:=d) (λv=>∃y,v=V.int y) d0 d1 (by
    intro x hx
    simp only[Ym,List.not_mem_nil,or_false]at hx
    rcases hx with rfl|rfl|rfl|rfl|rfl<;>exact⟨_,rfl⟩)
   exact⟨_,d,rfl,SqT.of hq2,_,hv,_,e2 _ _ nlp (g _ _ hl),a,by rw[eL];exact Zdm ha,hR _ _ ⟨none,T'.set a y,rfl,by simp,by rw[Zc,List.map_set],P2.ZjO nlp,eu _ _ ((e1.trans g.Zbv).trans e2)⟩⟩
  ·exact⟨_,e2 _ _ nlp hl,a,by rw[eL];exact Zdm ha,hR _ _ ⟨none,T'.set a d,rfl,by simp,by rw[Zc,List.map_set],P2.ZjO nlp,eu _ _ (e1.trans e2)⟩⟩
 rintro σ Hx ⟨v5,U,rfl,hU,hlx,P2,e2⟩
 walk_at "rd"
 exact k1 l U Hx hlx (by omega) P2 e2
theorem ZgN {f:Addr}{fd:FuncData} (F:Fun K "_law_any_tree" "_law_any_tree" Z3 f fd) (Zm:Callee P w K mg base "_law_take" 1 ["pot","many"] (Zag K mg)) (Zfx:Callee P w K mg base "_law_row" 2 ["pot","most"] (Zew K mg)) (Za3:Callee P w K mg base "_law_tree" 2 ["row"] (ZbM K mg)) (ZeB:Callee P w K mg base "_law_bent" 2 ["pot","tree"] (Zdv K mg)) (T:Txt K mg):FnOk P w K mg base (CXE P w) 3 f fd ["pot"] (Zbj K mg):=by
 refine F.okX Zae (λvs H Q E h=>?_) (λcdv A outer s H vs Q E hr h=>?_)
 ·obtain⟨p,rfl,_⟩:=h;rfl
 obtain⟨p,rfl,hP,k1⟩:=h
 refine⟨_,(Zd (Zp (i:=1) Zae.nd rfl (Or.inl rfl) (Zi Zm (hr.mono (by decide)) rfl Zx (Za (pv 0) (Za Ze Zb))))
   (Zd (ZO (Zn Zd6 (pv 1) Ze (Zo _)) (Zf (Zt (Z9 (ZaT (K:=K) rfl) rfl T.b_tuple Zau (Za (Zaj ["k"] [none] rfl rfl rfl (ZL rfl T.b_range (Za (Zs Za4 Ze (pv 1)) Zb)) (λ_ _ _ _ _=>(Zr (i:=0) (show(["k"]:List Str).Nodup from by decide +kernel) rfl (Or.inl rfl))) (λ_ _ _ _ _=>Zaa) (λ_ _ _ _ _=>(Zs Zat (pv 0) Ze)) Zy) Zb)))) ZE)
   (Zd (Zp (i:=2) Zae.nd rfl (Or.inl rfl) (Zi Za3 (hr.mono (by decide)) rfl Zx (Za (Zi Zfx (hr.mono (by decide)) rfl Zx (Za (pv 0) (Za Ze Zb))) Zb)))
   (Zd (Zbz (Zdi PassesOwn.never rfl (ZL rfl T.b_range (Za (Zh (ZeZ rfl) rfl T.b_max ZhD (Za Ze (Za (Zs Zat (Zi Zm (hr.mono (by decide)) rfl Zx (Za (pv 0) (Za Ze Zb))) Ze) Zb))) Zb)) (Zr (i:=3) Zae.nd rfl (Or.inl rfl)) (Zf (Zp (i:=2) Zae.nd rfl (Or.inl rfl) (Z9 (ZaT (K:=K) rfl) rfl T.b_tuple Zau (Za (Zi ZeB (hr.mono (by decide)) rfl Zx (Za (pv 0) (Za (pv 2) Zb))) Zb))))))
   (Zf (Zt (pv 2))))))),?_⟩
 walk_at "rd"
 refine⟨p,_,rfl,by decide,by decide,hP,λd H1 d0 d1 P1 e1=>⟨d,rfl,ZF (λz=>⟨d,rfl,by omega,by omega,?_⟩) λz=>?_⟩⟩
 ·rw[show(32+d).toNat=32+d.toNat by omega]
  refine comp_map (n:=32+d.toNat) (λj=>V.int ((j:Int)-1)) (YE (show _<=1000 by omega) (by decide)) (λj Hx s hj=>hj) (λHx s=>Yf _) ?_ ?_
  ·rintro j x Hx Hy hj s ⟨rfl,rfl⟩
   walk_at "rd"
   exact CW.next hj (by congr 1;omega) s
  ·intro l Hx s hl
   have em:(List.range (32+d.toNat)).map (λ(j:Nat)=>V.int ((j:Int)-1))=((List.range (32+d.toNat)).map λ(j:Nat)=>(j:Int)-1).map V.int:=by simp[Function.comp_def]
   refine⟨l,rfl,_,.inl ⟨SqL.of Zc,λt zt=>k1 t _ _ (by rw[Zc,em]) (by simp;omega) (P1.same ((s.ZT hl).ZT zt)) (e1.trans ((s.ZT hl).ZT zt).Zbv)⟩⟩
 ·refine⟨p,_,rfl,by decide,by decide,P1,λr ns H2 hr2 hl hrow P2 e2=>⟨r,ns,rfl,.inl (SqL.of hrow),by omega,λt es H3 hT s3 ht=>⟨p,_,rfl,by decide,by decide,P2.same s3,λc H4 c0 c1 P4 e4=>⟨c,rfl,by split<;>omega,by split<;>omega,?_⟩⟩⟩⟩
  have ntp:t≠p:=λz=>by
   obtain⟨_,hz,_⟩:=P2.same s3
   rw[<-z,ht]at hz;cases hz
  have eE:=hT.1
  refine Zbd (λi σ Hx=>∃(u:Addr) (U:List Int) (v3:Option V),σ=[some (.ref p),some (.int d),some (.ref u),v3]/\U.length<=8+i/\Hx u=some (.tup (U.map V.int))/\ZD Hx p/\Exc p H Hx) ⟨t,es,none,rfl,by omega,e4 _ _ ntp ht,P4,(e1.trans (e2.trans s3.Zbv)).trans e4⟩ ?_ ?_
  ·rintro i σ Hx hi ⟨u,U,v3,rfl,hU,hu,Px,ex⟩
   have hi3:i<3:=by revert hi;split<;>omega
   walk_at "rd"
   refine⟨p,u,U,rfl,Px,hu,by omega,λt' T2 H5 ht' hl' P5 e5=>⟨t',rfl,_,.inl ⟨SqL.of ht',λq hq=>?_⟩⟩⟩
   exact⟨T2,by omega,Zc,P5.upd hq,(ex.trans e5).trans ((Zg.refl H5).upd hq).Zbv⟩
  ·rintro σ Hx ⟨u,U,v3,rfl,hU,hu,Px,ex⟩
   walk_at "rd"
   exact k1 u U Hx hu (by revert hU;split<;>omega) Px ex
theorem ZiR {f:Addr}{fd:FuncData} (F:Fun K "_law_asked" "_law_asked" ZaH f fd) (ZgP:Callee P w K mg base "nearest" 7 ["tree","row"] (Zfv K mg)) (ZbE:Callee P w K mg base "nearest_right" 6 ["tree","row","far","made","pair"] (Zbi K mg)) (Zh2:Callee P w K mg base "fitted" 7 ["tree","least","greatest"] (ZgI K mg)) (Zcc:Callee P w K mg base "fitted_right" 6 ["tree","least","greatest","told"] (ZbC K mg)) (T:Txt K mg):FnOk P w K mg base (CXE P w) 8 f fd ["which","tree","row","other"] (ZcE K mg):=by
 refine F.okX Z0 (λvs H Q E h=>?_) (λcdv A outer s H vs Q E hr h=>?_)
 ·obtain⟨w,t,r,o,T,ns,os,rfl,_⟩:=h;rfl
 obtain⟨w,t,r,o,T',ns,os,rfl,w0,w4,ht,hr1,ho,hTn,hTf,n1,n2,n3,k1,kN,kU⟩:=h
 refine⟨_,(Zd (Zp (i:=4) Z0.nd rfl (Or.inl rfl) Zgy)
   (Zd (ps_try (j:=5) ⟨rfl,rfl⟩ Z0.nd rfl rfl rfl T.c_DipError T.x_DipError (λEc pl=>(Zf (ZO (Zn Za5 (pv 0) Ze (Zo _)) (Zf (Zp (i:=4) Z0.nd rfl (Or.inl rfl) (Ze2 Zh2 (hr.mono (by decide)) rfl Zmy (Za (pv 1) (Za (pv 2) (Za (pv 3) Zb)))))) (Zf (ZO (Zn Za5 (pv 0) Ze (Zo _)) (Zf (Zp (i:=4) Z0.nd rfl (Or.inl rfl) (Ze2 Zcc (hr.mono (by decide)) rfl Zmy (Za (pv 1) (Za (pv 2) (Za (pv 3) (Za (Zbx (Za Zhw (Za Ze (Za Ze Zb)))) Zb))))))) (Zf (ZO (Zn Za5 (pv 0) Ze (Zo _)) (Zf (Zp (i:=4) Z0.nd rfl (Or.inl rfl) (Ze2 ZgP (hr.mono (by decide)) rfl Zmy (Za (pv 1) (Za (pv 2) Zb))))) (Zf (Zp (i:=4) Z0.nd rfl (Or.inl rfl) (Ze2 ZbE (hr.mono (by decide)) rfl Zmy (Za (pv 1) (Za (pv 2) (Za Ze (Za (pv 3) (Za Zgy Zb))))))))))))))) (λA'=>(Zf (Zp (i:=4) Z0.nd rfl (Or.inl rfl) (pv 5)))))
   (Zf (Zt (pv 4))))),?_⟩
 walk_at "rd"
 refine⟨fun σ1 C _ H1=>σ1=[some (.int w),some (.ref t),some (.ref r),some (.ref o),some .non,none]/\((C=.ref (clsAt mg "NoTree")/\¬ ZI T')\/(C=.ref (clsAt mg "Unlike")/\ZI T'/\Zl4 w T' ns os))/\Zg H H1,?_,?_⟩
 ·have hw:w=0\/w=1\/w=2\/w=3:=by omega
  have kv:=λg u (c:Addr) (xs:List V) H1 (s1:Zg H H1) (hc:H1 c=some (.tup xs))=>k1 g u (.ref c) H1 s1 (.inl ⟨c,xs,rfl,hc⟩)
  have kb:=λg u (z:Bool) H1 (s1:Zg H H1)=>k1 g u (.bl z) H1 s1 (.inr ⟨z,rfl⟩)
  rcases hw with rfl|rfl|rfl|rfl
  ·walk_at "rd"
   exact⟨t,r,o,T',ns,os,rfl,ht,hr1,ho,hTf,n1,n2,n3,λg u c xs H1 s1 hc=>kv g (λy=>y ⟨u.1,λ_=>u.2⟩) c xs H1 s1 hc,λg H1 s1=>⟨.inl ⟨rfl,g⟩,s1⟩,λg u H1 s1=>⟨.inr ⟨rfl,g,λy=>u ⟨y.1,y.2 (by decide)⟩⟩,s1⟩⟩
  ·walk_at "rd"
   rw[Yb (by decide)]
   refine⟨by decide,λp hp=>?_⟩
   have g0:=(Zg.refl H).upd (o:=.tup [V.str (Str.ofString "clash"),V.int 0,V.int 0]) hp
   exact⟨t,r,o,p,T',ns,os,rfl,g0 _ _ ht,g0.q hr1,g0.q ho,Zc,n1,n2,n3,λg u z H1 s1=>kb g (λy=>y ⟨u.1,λ_=>u.2⟩) z H1 (g0.trans s1),λg H1 s1=>⟨.inl ⟨rfl,g⟩,g0.trans s1⟩,λg u H1 s1=>⟨.inr ⟨rfl,g,λy=>u ⟨y.1,y.2 (by decide)⟩⟩,g0.trans s1⟩⟩
  ·walk_at "rd"
   rw[Yb (by decide),Yb (by decide)]
   exact⟨t,r,T',ns,rfl,ht,hr1,hTn,hTf,n1,n2,λg u c xs H1 s1 hc=>kv g (λy=>y ⟨u,λz=>absurd z (by decide)⟩) c xs H1 s1 hc,λg H1 s1=>⟨.inl ⟨rfl,g⟩,s1⟩,λg u H1 s1=>⟨.inr ⟨rfl,g,λy=>u y.1⟩,s1⟩⟩
  ·walk_at "rd"
   rw[Yb (by decide),Yb (by decide),Yb (by decide)]
   exact⟨t,r,o,T',ns,os,rfl,ht,hr1,ho,n1,n2,n3,λg u z H1 s1=>kb g (λy=>y ⟨u,λz=>absurd z (by decide)⟩) z H1 s1,λg H1 s1=>⟨.inl ⟨rfl,g⟩,s1⟩,λg u H1 s1=>⟨.inr ⟨rfl,g,λy=>u y.1⟩,s1⟩⟩
 ·rintro σ1 C H1 ⟨rfl,hC,s1⟩
  rcases hC with⟨rfl,g⟩|⟨rfl,g,u⟩
  ·refine⟨_,rfl,T.up_NoTree,λe he=>?_⟩
   walk_at "rd"
   exact kN g e _ (s1.ZT he) Zc
  ·refine⟨_,rfl,T.up_Unlike,λe he=>?_⟩
   walk_at "rd"
   exact kU g u e _ (s1.ZT he) Zc
theorem Zk6 {f:Addr}{fd:FuncData} (F:Fun K "_law_due" "_law_due" Zbh f fd) (Zcd:Callee P w K mg base "_law_is_tree" 3 ["tree"] (ZbD K mg)) (T:Txt K mg):FnOk P w K mg base (CXE P w) 4 f fd ["which","tree","row","other"] (Zey K mg):=by
 refine F.okX ZkX (λvs H Q E h=>?_) (λcdv A outer s H vs Q E hr h=>?_)
 ·obtain⟨w,t,r,o,T,ns,os,rfl,_⟩:=h;rfl
 obtain⟨w,t,r,o,T',ns,os,rfl,ht,hr1,ho,n1,n2,n3,k1,kN,kU⟩:=h
 refine⟨_,(Zd (ZO (Zej (Zdd (Zi Zcd (hr.mono (by decide)) rfl Zx (Za (pv 1) Zb)))) (Zf (Zt Ze)) ZE)
   (Zd (ZO (PW.pt (Zg3 (Zn Zkp (Zh (Zk (K:=K) rfl) rfl T.b_len Yq (Za (pv 2) Zb)) (Zh (Zk (K:=K) rfl) rfl T.b_len Yq (Za (pv 1) Zb)) (Zo _)) (Zei (PW.pt (Zfo (Zn Zeo (pv 0) Ze (Zo _)) (Zde (Zn Zkp (Zh (Zk (K:=K) rfl) rfl T.b_len Yq (Za (pv 3) Zb)) (Zh (Zk (K:=K) rfl) rfl T.b_len Yq (Za (pv 1) Zb)) (Zo _)))))))) (Zf (Zt Ze)) ZE)
   (Zf (Zt (Zd5 Zbw Ze))))),?_⟩
 walk_at "rd"
 refine⟨t,T',rfl,ht,n1,λb H1 s1 hb=>⟨b,rfl,ZF (λz=>kN (λg=>by rw[hb.mpr g]at z;cases z) H1 s1) λz=>?_⟩⟩
 have hG:ZI T':=hb.mp (by cases b<;>simp_all)
 have e1:(ns.map V.int).length=ns.length:=Yl ..
 have e2:(T'.map V.int).length=T'.length:=Yl ..
 have e3:(os.map V.int).length=os.length:=Yl ..
 refine⟨_,.inl (SqL.of (s1 _ _ hr1)),_,.inr (SqT.of (s1 _ _ ht)),ZF (λc=>kU hG (λy=>c (by omega)) H1 s1) λc=>ZF (λc2=>⟨_,.inl (SqL.of (s1 _ _ ho)),_,.inr (SqT.of (s1 _ _ ht)),ZF (λc3=>kU hG (λy=>c3 (by have:=y.2 c2;omega)) H1 s1) λc3=>k1 hG (λy=>y ⟨by omega,λ_=>by omega⟩) H1 s1⟩) λc2=>k1 hG (λy=>y ⟨by omega,λc4=>absurd c4 c2⟩) H1 s1⟩
noncomputable def RowI (H1 Hz:Hp) (p:Addr) (j:Nat) (acc:List V):Prop:=acc.length=j/\(∀x∈acc,∃(a:Addr) (us:List Int),x=V.ref a/\us.length<=40/\Hz a=some (.lst (us.map V.int))/\a≠p)/\ZD Hz p/\Exc p H1 Hz
theorem ok_law {f:Addr}{fd:FuncData} (F:Fun K "law" "law" Zge f fd) (ZeC:Callee P w K mg base "_law_deal" 1 ["script","k"] (Zdr K mg)) (Zm:Callee P w K mg base "_law_take" 1 ["pot","many"] (Zag K mg)) (ZdC:Callee P w K mg base "_law_alone" 1 ["e","place"] (ZcD K mg)) (Zbo:Callee P w K mg base "_law_either" 2 ["pot","some"] (Zca K mg)) (ZbF:Callee P w K mg base "_law_any_tree" 3 ["pot"] (Zbj K mg)) (ZdD:Callee P w K mg base "_law_asked" 8 ["which","tree","row","other"] (ZcE K mg)) (Zfy:Callee P w K mg base "_law_due" 4 ["which","tree","row","other"] (Zey K mg)) (T:Txt K mg):FnOk P w K mg base (CXE P w) 9 f fd ["script"] (ZmX K mg):=by
 refine F.okX ZcH (λvs H Q E h=>?_) (λcdv A outer s H vs Q E hr h=>?_)
 ·obtain⟨a,ns,rfl,_⟩:=h;rfl
 obtain⟨sc,ss,rfl,hsc,hss,hTb,k1⟩:=h
 refine⟨_,(Zd (Zbz (Zdi PassesOwn.never rfl (ZL rfl T.b_range (Za (Zh (ZeZ rfl) rfl T.b_max ZhD (Za Ze (Za (Zh (Zi3 rfl) rfl T.b_min Zo3 (Za (Zh (Zk (K:=K) rfl) rfl T.b_len Yq (Za (pv 0) Zb)) (Za Ze Zb))) Zb))) Zb)) (Zr (i:=1) ZcH.nd rfl (Or.inl rfl)) (Zd (Zp (i:=2) ZcH.nd rfl (Or.inr rfl) (Zi ZeC (hr.mono (by decide)) rfl Zx (Za (pv 0) (Za (pv 1) Zb))))
   (Zd (Zp (i:=3) ZcH.nd rfl (Or.inr rfl) (Zi ZbF (hr.mono (by decide)) rfl Zx (Za (pv 2) Zb)))
   (Zd (Zes (i:=4) ["turn","tree","pot"] [none,some 3,some 2] ZcH.nd rfl (Or.inl rfl) rfl rfl rfl (ZL rfl T.b_range (Za Ze Zb)) (λ_ _ _ _ _=>(Zr (i:=0) (show(["turn","tree","pot"]:List Str).Nodup from by decide +kernel) rfl (Or.inl rfl))) (λ_ _ _ _ _=>Zaa) (λ_ _ _ _ _=>(Zh (ZeZ rfl) rfl T.b_max ZhD (Za Ze (Za (Zh (Zi3 rfl) rfl T.b_min Zo3 (Za Ze (Za (Zs Za4 (Zh (Zk (K:=K) rfl) rfl T.b_len Yq (Za (pv 1) Zb)) (Zw (r:=Zm7 K) Za6 (Zbx (Za Ze (Za Ze (Za Ze (Za Ze (Za (Zd5 Zbw Ze) Zb)))))) (Zi Zm (hr.mono (by decide)) rfl Zx (Za (pv 2) (Za Ze Zb))) (λ_ _=>rfl))) Zb))) Zb)))) Zy)
   (Zd (Zcx (Zaj ["size","pot"] [none,some 2] rfl rfl rfl (Zdh (pv 4)) (λ_ _ _ _ _=>(Zr (i:=0) (show(["size","pot"]:List Str).Nodup from by decide +kernel) rfl (Or.inl rfl))) (λ_ _ _ _ _=>Zaa) (λ_ _ _ _ _=>(Zaj ["place","pot"] [none,some 1] rfl rfl rfl (ZL rfl T.b_range (Za (pv 0) Zb)) (λ_ _ _ _ _=>(Zr (i:=0) (show(["place","pot"]:List Str).Nodup from by decide +kernel) rfl (Or.inl rfl))) (λ_ _ _ _ _=>Zaa) (λ_ _ _ _ _=>(Zs Zat (Zi Zm (hr.mono (by decide)) rfl Zx (Za (pv 1) (Za Ze Zb))) Ze)) Zy)) Zy) (pg_lst (K:=K) rfl (n:=2) rfl (ZY (Zr (i:=5) ZcH.nd rfl (Or.inl rfl)) (ZY (Zr (i:=6) ZcH.nd rfl (Or.inl rfl)) Zcn))))
   (Zf (Zbz (Zdi PassesOwn.never rfl (ZL rfl T.b_range (Za Ze Zb)) (Zr (i:=7) ZcH.nd rfl (Or.inl rfl)) (Zd (Zp (i:=8) ZcH.nd rfl (Or.inl rfl) (Zi ZdD (hr.mono (by decide)) rfl Zx (Za (pv 7) (Za (pv 3) (Za (Zi Zbo (hr.mono (by decide)) rfl Zx (Za (pv 2) (Za (pv 5) Zb))) (Za (Zi Zbo (hr.mono (by decide)) rfl Zx (Za (pv 2) (Za (pv 6) Zb))) Zb))))))
   (Zd (Zp (i:=9) ZcH.nd rfl (Or.inl rfl) (Zi Zfy (hr.mono (by decide)) rfl Zx (Za (pv 7) (Za (pv 3) (Za (pv 5) (Za (pv 6) Zb))))))
   (Zf (ZO (PW.pt (Zg3 (PW.pt (Zfo (Zn Zeo (pv 9) Ze (Zo _)) (Zde (PW.pt (Zg3 (Zn ZoL (pv 8) Zgy (Zo _)) (Zei (Zdd (Zh (ZM (K:=K) rfl) rfl T.b_isinstance Zu (Za (pv 8) (Za (Zax (v:=.ref (clsAt mg "DipError")) rfl T.c_DipError rfl) Zb)))))))))) (Zei (PW.pt (Zfo (Zn ZoK (pv 9) Ze (Zo _)) (Zde (Zej (Zdd (Zi ZdC (hr.mono (by decide)) rfl Zx (Za (pv 8) (Za (pv 9) Zb))))))))))) (Zf (Zt Zeh)) ZE)))))))))))))
   (Zf (Zt Zeh))),?_⟩
 have hTn:Zee K mg "nearest" H:=hTb (ZhL K mg "nearest",ZkQ "nearest") (by simp[Zfh])
 have hTf:Zee K mg "from_below" H:=hTb (ZhL K mg "from_below",ZkQ "from_below") (by simp[Zfh])
 walk_at "rd"
 refine⟨_,.inl hsc,?_,?_,Zbd (λi σ H'=>∃v1 v2 v3 v4 v5 v6 v7 v8 v9,σ=[some (.ref sc),v1,v2,v3,v4,v5,v6,v7,v8,v9]/\Zg H H') ⟨_,_,_,_,_,_,_,_,_,rfl,Zg.refl H⟩ ?_ ?_⟩
 ·split<;>omega
 ·split<;>omega
 ·rintro i σ H' hi ⟨v1,v2,v3,v4,v5,v6,v7,v8,v9,rfl,hs⟩
  have hi8:i<64:=by
   revert hi
   split
   ·split<;>omega
   ·omega
  refine ZaL (fun σ Hx=>∃p,σ=[some (.ref sc),some (.int (0+(i:Int))),some (.ref p),v3,v4,v5,v6,v7,v8,v9]/\H p=none/\ZD Hx p/\Zg H Hx) (λR hR=>?_) ?_
  ·walk_at "rd"
   exact⟨sc,ss,_,rfl,hs.seq hsc,by omega,by omega,λp H1 hp s1 P1=>hR _ _ ⟨p,rfl,hs.free hp,P1,hs.trans s1⟩⟩
  rintro σ H1 ⟨p,rfl,zp,P1,s1⟩
  refine ZaL (fun σ Hx=>∃(t:Addr) (T':List Int),σ=[some (.ref sc),some (.int (0+(i:Int))),some (.ref p),some (.ref t),v4,v5,v6,v7,v8,v9]/\T'.length<=41/\t≠p/\Hx t=some (.tup (T'.map V.int))/\ZD Hx p/\Zg H Hx) (λR hR=>?_) ?_
  ·walk_at "rd"
   refine⟨p,rfl,P1,λt T' H2 ht hl P2 e2=>hR _ _ ⟨t,T',rfl,hl,λz=>?_,ht,P2,s1.exc zp e2⟩⟩
   obtain⟨_,hz,_⟩:=P2
   rw[<-z,ht]at hz;cases hz
  clear s1 P1
  rintro σ H1 ⟨t,T',rfl,hl,ntp,ht,P1,s1⟩
  have eL:(T'.map V.int).length=T'.length:=Yl ..
  refine ZaL (fun σ Hx=>∃(z:Addr) (sz:List Int),σ=[some (.ref sc),some (.int (0+(i:Int))),some (.ref p),some (.ref t),some (.ref z),v5,v6,v7,v8,v9]/\sz.length=2/\(∀x∈sz,0<=x/\x<=40)/\z≠p/\Hx z=some (.lst (sz.map V.int))/\Hx t=some (.tup (T'.map V.int))/\ZD Hx p/\Zg H Hx) (λR hR=>?_) ?_
  ·walk_at "rd"
   refine⟨by decide,by decide,Zf2 (n:=2) (λj acc Hz=>∃bs:List Int,acc=bs.map V.int/\bs.length=j/\(∀x∈bs,0<=x/\x<=40)/\ZD Hz p/\Exc p H1 Hz) (by decide) ⟨[],rfl,rfl,(λb hb=>nomatch hb),P1,(Zg.refl H1).Zbv⟩ (λj acc Hz _ hj=>hj) (λacc Hz _=>Yf _) ?_ ?_⟩
   ·rintro j x acc Hz Hz' hj hacc ⟨bs,rfl,hbl,hba,P2,e2⟩ ⟨rfl,rfl⟩
    walk_at "rd"
    refine⟨_,.inr (SqT.of (e2 _ _ ntp ht)),by decide,λq hq=>⟨p,_,rfl,by decide,by decide,P2.upd hq,λd H2 d0 d1 P3 e3=>?_⟩⟩
    have hq2:=e3 _ _ (P2.ne hq) Zc
    obtain⟨v,hv,y,rfl⟩:=ZjK (xs:=[V.int 0,V.int 0,V.int 0,V.int 1,V.int (-1)]) (i:=d) (λv=>∃y,v=V.int y) d0 d1 (by
     intro x hx
     simp only[Ym,List.not_mem_nil,or_false]at hx
     rcases hx with rfl|rfl|rfl|rfl|rfl<;>exact⟨_,rfl⟩)
    refine⟨_,d,rfl,SqT.of hq2,_,hv,y,rfl,CA.take hj hacc ⟨bs++[_],by rw[YX];rfl,by simp[hbl],λx hx=>?_,P3,(e2.trans ((Zg.refl _).upd hq).Zbv).trans e3⟩⟩
    rcases Yy.mp hx with hx|hx
    ·exact hba x hx
    ·rw[Y0.mp hx]
     constructor<;>(repeat' split)<;>omega
   ·rintro b acc Hz ⟨bs,rfl,hbl,hba,P2,e2⟩ _ hb
    have g:=(Zg.refl Hz).upd (o:=.lst (bs.map V.int)) hb
    exact hR _ _ ⟨b,bs,rfl,hbl,hba,P2.ne hb,Zc,g _ _ (e2 _ _ ntp ht),P2.same g,(s1.exc zp e2).trans g⟩
  clear s1 P1 ht
  rintro σ H1 ⟨z,sz,rfl,hsz,hszb,nzp,hz,ht,P1,s1⟩
  refine ZaL (fun σ Hx=>∃(r o:Addr) (ns os:List Int),σ=[some (.ref sc),some (.int (0+(i:Int))),some (.ref p),some (.ref t),some (.ref z),some (.ref r),some (.ref o),v7,v8,v9]/\ns.length<=40/\os.length<=40/\r≠p/\o≠p/\Hx r=some (.lst (ns.map V.int))/\Hx o=some (.lst (os.map V.int))/\Hx t=some (.tup (T'.map V.int))/\ZD Hx p/\Zg H Hx) (λR hR=>?_) ?_
  ·walk_at "rd"
   have eZ:(sz.map V.int).length=2:=by rw[Yl];exact hsz
   refine⟨⟨_,SqL.of hz⟩,Zf2 (n:=2) (λj acc Hz=>RowI H1 Hz p j acc) (by decide) ⟨rfl,(λx hx=>nomatch hx),P1,(Zg.refl H1).Zbv⟩ (λj acc Hz h hj=>⟨_,_,SqL.of (h.2.2.2 _ _ nzp hz),Yh (by omega)⟩) (λacc Hz h=>⟨_,SqL.of (h.2.2.2 _ _ nzp hz),Y5 eZ⟩) ?_ ?_⟩
   ·rintro j x acc Hz Hz' hj hacc ⟨hal,hao,P2,e2⟩ ⟨rfl,hx⟩
    have ex:=hx _ (SqL.of (e2 _ _ nzp hz))
    rw[YH,Yh (show j<sz.length by omega)]at ex
    cases ex
    have hb:=hszb _ (YR (show j<sz.length by omega))
    generalize sz[j]=y at hb⊢
    walk_at "rd"
    refine⟨by omega,by omega,Zf2 (n:=y.toNat) (λk acc2 Hw=>∃bs:List Int,acc2=bs.map V.int/\bs.length=k/\ZD Hw p/\Exc p Hz' Hw) (YE (show _<=1000 by omega) (by decide)) ⟨[],rfl,rfl,P2,(Zg.refl Hz').Zbv⟩ (λj acc Hz _ hj=>hj) (λacc Hz _=>Yf _) ?_ ?_⟩
    ·rintro k x2 acc2 Hw Hw' hk hacc2 ⟨bs,rfl,hbl,P3,e3⟩ ⟨rfl,rfl⟩
     walk_at "rd"
     exact⟨p,_,rfl,by decide,by decide,P3,λc H4 c0 c1 P4 e4=>⟨c,rfl,CA.take hk hacc2 ⟨bs++[c-4],by simp,by simp[hbl],P4,e3.trans e4⟩⟩⟩
    ·rintro b acc2 Hw ⟨bs,rfl,hbl,P3,e3⟩ _ hb2
     have g:=(Zg.refl Hw).upd (o:=.lst (bs.map V.int)) hb2
     refine CA.take hj hacc ⟨by simp[hal],λx hx=>?_,P3.same g,(e2.trans e3).trans g.Zbv⟩
     rcases Yy.mp hx with hx|hx
     ·obtain⟨a,us,e,ul,ha,na⟩:=hao x hx
      exact⟨a,us,e,ul,g _ _ (e3 _ _ na ha),na⟩
     ·exact⟨b,bs,Y0.mp hx,by omega,Zc,P3.ne hb2⟩
   ·rintro b acc Hz ⟨hal,hao,P2,e2⟩ _ hb
    have g:=(Zg.refl Hz).upd (o:=.lst acc) hb
    match acc,hal,hao,g,hb with
    |[x,y],_,hao,g,hb =>
     obtain⟨a1,u1,rfl,l1,h1,n1⟩:=hao x (by simp)
     obtain⟨a2,u2,rfl,l2,h2,n2⟩:=hao y (by simp)
     exact⟨b,rfl,_,SqL.of Zc,rfl,_,_,rfl,_,_,rfl,rfl,hR _ _ ⟨a1,a2,u1,u2,rfl,l1,l2,n1,n2,g _ _ h1,g _ _ h2,g _ _ (e2 _ _ ntp ht),P2.same g,(s1.exc zp e2).trans g⟩⟩
  clear s1 P1 ht hz
  rintro σ H1 ⟨r,o,ns,os,rfl,hnl,hol,nrp,nop,hr1,ho,ht,P1,s1⟩
  walk_at "rd"
  refine⟨by decide,by decide,Zbd (λj σ Hx=>∃v7 v8 v9,σ=[some (.ref sc),some (.int (0+(i:Int))),some (.ref p),some (.ref t),some (.ref z),some (.ref r),some (.ref o),v7,v8,v9]/\Hx r=some (.lst (ns.map V.int))/\Hx o=some (.lst (os.map V.int))/\Hx t=some (.tup (T'.map V.int))/\ZD Hx p/\Zg H Hx) ⟨v7,v8,v9,rfl,hr1,ho,ht,P1,s1⟩ ?_ ?_⟩
  ·clear s1 P1 ht hr1 ho
   rintro j σ H1 hj ⟨v7,v8,v9,rfl,hr1,ho,ht,P1,s1⟩
   have hj4:j<4:=hj
   refine ZaL (fun σ Hx=>∃(v:V),σ=[some (.ref sc),some (.int (0+(i:Int))),some (.ref p),some (.ref t),some (.ref z),some (.ref r),some (.ref o),some (.int (0+(j:Int))),some v,v9]/\((ZI T'/\¬ Zl4 (0+(j:Int)) T' ns os/\((∃(c:Addr) (xs:List V),v=.ref c/\Hx c=some (.tup xs))\/∃b,v=.bl b))\/(¬ ZI T'/\∃e:Addr,v=.ref e/\Hx e=some (ZiB e (clsAt mg "NoTree")))\/(ZI T'/\Zl4 (0+(j:Int)) T' ns os/\∃e:Addr,v=.ref e/\Hx e=some (ZiB e (clsAt mg "Unlike"))))/\Hx r=some (.lst (ns.map V.int))/\Hx o=some (.lst (os.map V.int))/\Hx t=some (.tup (T'.map V.int))/\ZD Hx p/\Zg H Hx) (λR hR=>?_) ?_
   ·walk_at "rd"
    refine⟨p,r,ns,rfl,P1,nrp,hr1,by omega,λu1 H2 zu1 hu1 P2 e2=>⟨p,o,os,rfl,P2,nop,e2 _ _ nop ho,by omega,λu2 H3 zu2 hu2 P3 e3=>?_⟩⟩
    have nu1:=P1.ne zu1
    have sq:∀{a:Addr}{ls:List Int},(H3 a=some (.lst (ls.map V.int))\/H3 a=some (.tup (ls.map V.int)))->SqL K H3 a (ls.map V.int)\/SqT K H3 a (ls.map V.int):=λh=>h.elim (λz=>.inl (SqL.of z)) λz=>.inr (SqT.of z)
    have s3:=s1.exc zp (e2.trans e3)
    have e23:=e2.trans e3
    exact⟨_,t,u1,u2,T',ns,os,rfl,by omega,by omega,e23 _ _ ntp ht,sq (hu1.imp (λz=>e3 _ _ nu1 z) λz=>e3 _ _ nu1 z),sq hu2,Zee.same hTn s3,Zee.same hTf s3,by omega,by omega,by omega,λg u v H4 s4 hv=>hR _ _ ⟨v,rfl,.inl ⟨g,u,hv⟩,s4 _ _ (e23 _ _ nrp hr1),s4 _ _ (e23 _ _ nop ho),s4 _ _ (e23 _ _ ntp ht),P3.same s4,s3.trans s4⟩,λg e H4 s4 he=>hR _ _ ⟨_,rfl,.inr (.inl ⟨g,e,rfl,he⟩),s4 _ _ (e23 _ _ nrp hr1),s4 _ _ (e23 _ _ nop ho),s4 _ _ (e23 _ _ ntp ht),P3.same s4,s3.trans s4⟩,λg u e H4 s4 he=>hR _ _ ⟨_,rfl,.inr (.inr ⟨g,u,e,rfl,he⟩),s4 _ _ (e23 _ _ nrp hr1),s4 _ _ (e23 _ _ nop ho),s4 _ _ (e23 _ _ ntp ht),P3.same s4,s3.trans s4⟩⟩
   clear s1 P1 ht hr1 ho
   rintro σ H1 ⟨v,rfl,hv,hr1,ho,ht,P1,s1⟩
   walk_at "rd"
   have fin:∀H2,Zg H1 H2->H2 r=some (.lst (ns.map V.int))/\H2 o=some (.lst (os.map V.int))/\H2 t=some (.tup (T'.map V.int))/\ZD H2 p/\Zg H H2:=λH2 s2=>⟨s2 _ _ hr1,s2 _ _ ho,s2 _ _ ht,P1.same s2,s1.trans s2⟩
   refine⟨_,t,r,o,T',ns,os,rfl,ht,hr1,ho,by omega,by omega,by omega,λg u H2 s2=>?_,λg H2 s2=>?_,λg u H2 s2=>?_⟩
   ·rcases hv with⟨_,_,hv⟩|⟨g2,_⟩|⟨_,u2,_⟩
    ·refine⟨_,rfl,ZF (λ_=>ZF (λz=>?_) λz=>⟨false,?_,ZF (λy=>nomatch y) λ_=>⟨_,rfl,ZF (λy=>absurd y (by decide)) λ_=>fin H2 s2⟩⟩) λz=>absurd (by decide) z⟩
     ·rcases hv with⟨c,xs,rfl,_⟩|⟨b,rfl⟩<;>cases z
     ·rcases hv with⟨c,xs,rfl,hc⟩|⟨b,rfl⟩
      ·exact .inl ⟨_,.tup (s2 _ _ hc),T.ty_tuple⟩
      ·exact .inl ⟨_,.bl _,T.ty_bool⟩
    ·exact absurd g g2
    ·exact absurd u2 u
   ·rcases hv with⟨g2,_⟩|⟨_,e,rfl,he⟩|⟨g2,_⟩
    ·exact absurd g2 g
    ·exact⟨_,rfl,ZF (λz=>absurd z (by decide)) λ_=>⟨_,rfl,ZF (λ_=>⟨e,_,3,3,rfl,by decide,by decide,s2 _ _ he,Zj1 T,λH3 s3=>⟨_,rfl,ZF (λz=>absurd z (by decide)) λ_=>fin H3 (s2.trans s3)⟩⟩) λz=>absurd (by decide) z⟩⟩
    ·exact absurd g2 g
   ·rcases hv with⟨_,u2,_⟩|⟨g2,_⟩|⟨_,_,e,rfl,he⟩
    ·exact absurd u u2
    ·exact absurd g g2
    ·exact⟨_,rfl,ZF (λz=>absurd z (by decide)) λ_=>⟨_,rfl,ZF (λ_=>⟨e,_,0,0,rfl,by decide,by decide,s2 _ _ he,Zj0 T,λH3 s3=>⟨_,rfl,ZF (λz=>absurd z (by decide)) λ_=>fin H3 (s2.trans s3)⟩⟩) λz=>absurd (by decide) z⟩⟩
  ·rintro σ Hx ⟨v7,v8,v9,rfl,_,_,_,_,sx⟩
   exact⟨_,_,_,_,_,_,_,_,_,rfl,sx⟩
 ·rintro σ H' ⟨v1,v2,v3,v4,v5,v6,v7,v8,v9,rfl,hs⟩
  walk_at "rd"
  exact k1 H'
end
theorem all_mk {l:PySem.W.OpenLaw}{w:World}{K:PySem.W.Frag}{h:Heap}{mg:Str->Option Value}{fa:Addr}{ts:List Addr} (X:K.In h) (G:h.Ns mainGlobals mg) (hfa:mg "law"=some (.ref fa))
  (Zh3:nsIn K mainGlobals "settle"=some (some (.ref Zk7))) (Zh4:K.lookup Zk7=some ⟨Ztv,Ztw,.func (fnOf "settle" "settle" (defArgs Zc6) (defBody Zc6) (defScope Zc6) .none Ztx Zty Ztz ZtA ZnP ZtB),ZtC⟩) (Zh5:codeIn K ZnP "settle"=true) (Zgg:keepIn K (.ref Zk7)=true)
  (ZgQ:nsIn K mainGlobals "tree_of"=some (some (.ref Zjo))) (ZgR:K.lookup Zjo=some ⟨ZsR,ZsS,.func (fnOf "tree_of" "tree_of" (defArgs ZbY) (defBody ZbY) (defScope ZbY) .none ZsT ZsU ZsV ZsW Zmd ZsX),ZsY⟩) (ZgS:codeIn K Zmd "tree_of"=true) (Ze8:keepIn K (.ref Zjo)=true)
  (Zh6:nsIn K mainGlobals "way_up"=some (some (.ref Zk8))) (Zh7:K.lookup Zk8=some ⟨ZtD,ZtE,.func (fnOf "way_up" "way_up" (defArgs Zc7) (defBody Zc7) (defScope Zc7) .none ZtF ZtG ZtH ZtI ZnQ ZtJ),ZtK⟩) (Zh8:codeIn K ZnQ "way_up"=true) (Zgh:keepIn K (.ref Zk8)=true)
  (ZgT:nsIn K mainGlobals "is_tree"=some (some (.ref Zjp))) (ZgU:K.lookup Zjp=some ⟨ZsZ,Zs0,.func (fnOf "is_tree" "is_tree" (defArgs ZbZ) (defBody ZbZ) (defScope ZbZ) .none Zs1 Zs2 Zs3 Zs4 Zme Zs5),Zs6⟩) (ZgV:codeIn K Zme "is_tree"=true) (Ze9:keepIn K (.ref Zjp)=true)
  (ZeD:nsIn K mainGlobals "need_tree"=some (some (.ref Zg8))) (ZeE:K.lookup Zg8=some ⟨ZrG,ZrH,.func (fnOf "need_tree" "need_tree" (defArgs ZaV) (defBody ZaV) (defScope ZaV) .none ZrI ZrJ ZrK ZrL Zka ZrM),ZrN⟩) (ZeF:codeIn K Zka "need_tree"=true) (Zcr:keepIn K (.ref Zg8)=true)
  (ZbN:nsIn K mainGlobals "from_below"=some (some (.ref ZdE))) (ZbO:K.lookup ZdE=some ⟨Zql,Zqm,.func (fnOf "from_below" "from_below" (defArgs ZaB) (defBody ZaB) (defScope ZaB) .none Zqn Zqo Zqp Zqq Zfj Zqr),Zqs⟩) (ZdF:codeIn K Zfj "from_below"=true) (ZbP:keepIn K (.ref ZdE)=true)
  (ZcK:Zfj=.ref Zbp) (ZcL:K.lookup Zbp=some ⟨Zqt,Zqu,.fields ZiS,Zqv⟩) (ZcM:ZiS[11]?=some (.ref Zbq)) (Zbr:PySem.W.codeHdIn K Zbp Zbq=true) (ZcN:K.lookup Zbq=none) (ZcO:Zbq∈ts)
  (ZcP:nsIn K mainGlobals "flat_number"=some (some (.ref Zfk))) (ZcQ:K.lookup Zfk=some ⟨ZpV,ZpW,.func (fnOf "flat_number" "flat_number" (defArgs Zal) (defBody Zal) (defScope Zal) .none ZpX ZpY ZpZ Zp0 Zh9 Zp1),Zp2⟩) (ZcR:codeIn K Zh9 "flat_number"=true) (Zbs:keepIn K (.ref Zfk)=true)
  (Zfz:nsIn K mainGlobals "flattest"=some (some (.ref Zia))) (ZfA:K.lookup Zia=some ⟨Zsk,Zsl,.func (fnOf "flattest" "flattest" (defArgs Zbe) (defBody Zbe) (defScope Zbe) .none Zsm Zsn Zso Zsp Zk9 Zsq),Zsr⟩) (ZfB:codeIn K Zk9 "flattest"=true) (ZdG:keepIn K (.ref Zia)=true)
  (ZdH:nsIn K mainGlobals "heights_of"=some (some (.ref Zgi))) (ZdI:K.lookup Zgi=some ⟨Zqw,Zqx,.func (fnOf "heights_of" "heights_of" (defArgs ZaC) (defBody ZaC) (defScope ZaC) .none Zqy Zqz ZqA ZqB ZiT ZqC),ZqD⟩) (ZdJ:codeIn K ZiT "heights_of"=true) (ZbQ:keepIn K (.ref Zgi)=true)
  (Zib:nsIn K mainGlobals "row_by"=some (some (.ref Zla))) (Zic:K.lookup Zla=some ⟨ZtL,ZtM,.func (fnOf "row_by" "row_by" (defArgs Zc8) (defBody Zc8) (defScope Zc8) .none ZtN ZtO ZtP ZtQ ZnR ZtR),ZtS⟩) (Zid:codeIn K ZnR "row_by"=true) (Zgj:keepIn K (.ref Zla)=true)
  (Zie:nsIn K mainGlobals "lifted"=some (some (.ref Zlb))) (Zif:K.lookup Zlb=some ⟨ZtT,ZtU,.func (fnOf "lifted" "lifted" (defArgs Zc9) (defBody Zc9) (defScope Zc9) .none ZtV ZtW ZtX ZtY ZnS ZtZ),Zt0⟩) (Zig:codeIn K ZnS "lifted"=true) (Zgk:keepIn K (.ref Zlb)=true)
  (ZgW:nsIn K mainGlobals "is_over"=some (some (.ref Zjq))) (ZgX:K.lookup Zjq=some ⟨Zs7,Zs8,.func (fnOf "is_over" "is_over" (defArgs Zb0) (defBody Zb0) (defScope Zb0) .none Zs9 Zta Ztb Ztc Zmf Ztd),Zte⟩) (ZgY:codeIn K Zmf "is_over"=true) (Zfa:keepIn K (.ref Zjq)=true)
  (Zce:nsIn K mainGlobals "higher_pairs"=some (some (.ref ZeG))) (Zcf:K.lookup ZeG=some ⟨Zof,Zog,.func (fnOf "higher_pairs" "higher_pairs" (defArgs Zab) (defBody Zab) (defScope Zab) .none Zoh Zoi Zoj Zok Zho Zol),Zom⟩) (Zcg:codeIn K Zho "higher_pairs"=true) (Zba:keepIn K (.ref ZeG)=true)
  (Zfb:nsIn K mainGlobals "nearest"=some (some (.ref ZgZ))) (Zfc:K.lookup ZgZ=some ⟨Ztf,Ztg,.func (fnOf "nearest" "nearest" (defArgs Zb1) (defBody Zb1) (defScope Zb1) .none Zth Zti Ztj Ztk Zih Ztl),Ztm⟩) (Zg0:codeIn K Zih "nearest"=true) (Zfd:keepIn K (.ref ZgZ)=true)
  (ZfC:Zih=.ref ZdK) (ZfD:K.lookup ZdK=some ⟨Ztn,Zto,.fields Zmg,Ztp⟩) (ZfE:Zmg[11]?=some (.ref ZdL)) (ZdM:PySem.W.codeHdIn K ZdK ZdL=true) (ZfF:K.lookup ZdL=none) (ZfG:ZdL∈ts)
  (ZdN:nsIn K mainGlobals "pair_shows"=some (some (.ref Zgl))) (ZdO:K.lookup Zgl=some ⟨ZqE,ZqF,.func (fnOf "pair_shows" "pair_shows" (defArgs ZaD) (defBody ZaD) (defScope ZaD) .none ZqG ZqH ZqI ZqJ ZiU ZqK),ZqL⟩) (ZdP:codeIn K ZiU "pair_shows"=true) (ZbR:keepIn K (.ref Zgl)=true)
  (ZbG:nsIn K mainGlobals "nearest_right"=some (some (.ref Zd9))) (ZbH:K.lookup Zd9=some ⟨ZnT,ZnU,.func (fnOf "nearest_right" "nearest_right" (defArgs Z2) (defBody Z2) (defScope Z2) .none ZnV ZnW ZnX ZnY Zg1 ZnZ),Zn0⟩) (ZbI:codeIn K Zg1 "nearest_right"=true) (ZaQ:keepIn K (.ref Zd9)=true)
  (Zii:nsIn K mainGlobals "fitted"=some (some (.ref Zlc))) (Zij:K.lookup Zlc=some ⟨Zt1,Zt2,.func (fnOf "fitted" "fitted" (defArgs Zda) (defBody Zda) (defScope Zda) .none Zt3 Zt4 Zt5 Zt6 Zn1 Zt7),Zt8⟩) (Zik:codeIn K Zn1 "fitted"=true) (Zgm:keepIn K (.ref Zlc)=true)
  (ZdQ:nsIn K mainGlobals "fits_least"=some (some (.ref Zgn))) (ZdR:K.lookup Zgn=some ⟨ZqM,ZqN,.func (fnOf "fits_least" "fits_least" (defArgs ZaE) (defBody ZaE) (defScope ZaE) .none ZqO ZqP ZqQ ZqR ZiV ZqS),ZqT⟩) (ZdS:codeIn K ZiV "fits_least"=true) (ZbS:keepIn K (.ref Zgn)=true)
  (ZfH:nsIn K mainGlobals "is_clash"=some (some (.ref Zil))) (ZfI:K.lookup Zil=some ⟨Zss,Zst,.func (fnOf "is_clash" "is_clash" (defArgs Zbf) (defBody Zbf) (defScope Zbf) .none Zsu Zsv Zsw Zsx Zld Zsy),Zsz⟩) (ZfJ:codeIn K Zld "is_clash"=true) (ZdT:keepIn K (.ref Zil)=true)
  (Zch:nsIn K mainGlobals "fitted_right"=some (some (.ref ZeH))) (Zci:K.lookup ZeH=some ⟨Zon,Zoo,.func (fnOf "fitted_right" "fitted_right" (defArgs Zac) (defBody Zac) (defScope Zac) .none Zop Zoq Zor Zos Zhp Zot),Zou⟩) (Zcj:codeIn K Zhp "fitted_right"=true) (Zbb:keepIn K (.ref ZeH)=true)
  (ZeI:nsIn K mainGlobals "_law_deal"=some (some (.ref Zg9))) (ZeJ:K.lookup Zg9=some ⟨ZrO,ZrP,.func (fnOf "_law_deal" "_law_deal" (defArgs ZaW) (defBody ZaW) (defScope ZaW) .none ZrQ ZrR ZrS ZrT Zkb ZrU),ZrV⟩) (ZeK:codeIn K Zkb "_law_deal"=true) (Zcs:keepIn K (.ref Zg9)=true)
  (ZeL:nsIn K mainGlobals "_law_take"=some (some (.ref Zha))) (ZeM:K.lookup Zha=some ⟨ZrW,ZrX,.func (fnOf "_law_take" "_law_take" (defArgs ZaX) (defBody ZaX) (defScope ZaX) .none ZrY ZrZ Zr0 Zr1 Zkc Zr2),Zr3⟩) (ZeN:codeIn K Zkc "_law_take"=true) (Zct:keepIn K (.ref Zha)=true)
  (ZfK:nsIn K mainGlobals "_law_row"=some (some (.ref Zim))) (ZfL:K.lookup Zim=some ⟨ZsA,ZsB,.func (fnOf "_law_row" "_law_row" (defArgs Zbg) (defBody Zbg) (defScope Zbg) .none ZsC ZsD ZsE ZsF Zle ZsG),ZsH⟩) (ZfM:codeIn K Zle "_law_row"=true) (ZdU:keepIn K (.ref Zim)=true)
  (ZdV:nsIn K mainGlobals "_law_elder"=some (some (.ref Zgo))) (ZdW:K.lookup Zgo=some ⟨ZqU,ZqV,.func (fnOf "_law_elder" "_law_elder" (defArgs ZaF) (defBody ZaF) (defScope ZaF) .none ZqW ZqX ZqY ZqZ ZiW Zq0),Zq1⟩) (ZdX:codeIn K ZiW "_law_elder"=true) (ZbT:keepIn K (.ref Zgo)=true)
  (ZeO:nsIn K mainGlobals "_law_tree"=some (some (.ref Zhb))) (ZeP:K.lookup Zhb=some ⟨Zr4,Zr5,.func (fnOf "_law_tree" "_law_tree" (defArgs ZaY) (defBody ZaY) (defScope ZaY) .none Zr6 Zr7 Zr8 Zr9 Zkd Zsa),Zsb⟩) (ZeQ:codeIn K Zkd "_law_tree"=true) (Zcu:keepIn K (.ref Zhb)=true)
  (ZdY:nsIn K mainGlobals "_law_alone"=some (some (.ref Zgp))) (ZdZ:K.lookup Zgp=some ⟨Zq2,Zq3,.func (fnOf "_law_alone" "_law_alone" (defArgs ZaG) (defBody ZaG) (defScope ZaG) .none Zq4 Zq5 Zq6 Zq7 ZiX Zq8),Zq9⟩) (Zd0:codeIn K ZiX "_law_alone"=true) (ZbU:keepIn K (.ref Zgp)=true)
  (ZcS:nsIn K mainGlobals "_law_either"=some (some (.ref Zfl))) (ZcT:K.lookup Zfl=some ⟨Zp3,Zp4,.func (fnOf "_law_either" "_law_either" (defArgs Zam) (defBody Zam) (defScope Zam) .none Zp5 Zp6 Zp7 Zp8 Zin Zp9),Zqa⟩) (ZcU:codeIn K Zin "_law_either"=true) (Zbt:keepIn K (.ref Zfl)=true)
  (Zck:nsIn K mainGlobals "_law_is_tree"=some (some (.ref ZeR))) (Zcl:K.lookup ZeR=some ⟨Zov,Zow,.func (fnOf "_law_is_tree" "_law_is_tree" (defArgs Zad) (defBody Zad) (defScope Zad) .none Zox Zoy Zoz ZoA Zhq ZoB),ZoC⟩) (Zcm:codeIn K Zhq "_law_is_tree"=true) (Zbc:keepIn K (.ref ZeR)=true)
  (ZeS:nsIn K mainGlobals "_law_bent"=some (some (.ref Zhc))) (ZeT:K.lookup Zhc=some ⟨Zsc,Zsd,.func (fnOf "_law_bent" "_law_bent" (defArgs ZaZ) (defBody ZaZ) (defScope ZaZ) .none Zse Zsf Zsg Zsh Zke Zsi),Zsj⟩) (ZeU:codeIn K Zke "_law_bent"=true) (Zcv:keepIn K (.ref Zhc)=true)
  (ZbJ:nsIn K mainGlobals "_law_any_tree"=some (some (.ref Zea))) (ZbK:K.lookup Zea=some ⟨Zn2,Zn3,.func (fnOf "_law_any_tree" "_law_any_tree" (defArgs Z3) (defBody Z3) (defScope Z3) .none Zn4 Zn5 Zn6 Zn7 Zg2 Zn8),Zn9⟩) (ZbL:codeIn K Zg2 "_law_any_tree"=true) (ZaR:keepIn K (.ref Zea)=true)
  (Zd1:nsIn K mainGlobals "_law_asked"=some (some (.ref Zgq))) (Zd2:K.lookup Zgq=some ⟨Zra,Zrb,.func (fnOf "_law_asked" "_law_asked" (defArgs ZaH) (defBody ZaH) (defScope ZaH) .none Zrc Zrd Zre Zrf ZiY Zrg),Zrh⟩) (Zd3:codeIn K ZiY "_law_asked"=true) (ZbV:keepIn K (.ref Zgq)=true)
  (ZfN:nsIn K mainGlobals "_law_due"=some (some (.ref Zio))) (ZfO:K.lookup Zio=some ⟨ZsI,ZsJ,.func (fnOf "_law_due" "_law_due" (defArgs Zbh) (defBody Zbh) (defScope Zbh) .none ZsK ZsL ZsM ZsN Zlf ZsO),ZsP⟩) (ZfP:codeIn K Zlf "_law_due"=true) (Zd4:keepIn K (.ref Zio)=true)
  (Zqb:nsIn K mainGlobals "law"=some (some (.ref ZsQ))) (Zqc:K.lookup ZsQ=some ⟨Zua,Zub,.func (fnOf "law" "law" (defArgs Zge) (defBody Zge) (defScope Zge) .none Ztq Ztr Zts Ztt Zqd Ztu),Zuc⟩) (Zqe:codeIn K Zqd "law"=true) (Zqf:keepIn K (.ref ZsQ)=true)
  {C_DipError:Addr} (n_DipError:nsIn K mainGlobals "DipError"=some (some (.ref C_DipError))) (x_DipError:PySem.W.excIn K C_DipError bmV newV=true) (d_DipError:PySem.W.hasDictIn K C_DipError=true) (y_DipError:PySem.W.typeIn K (.ref C_DipError)=some (.type "type"))
  {C_Unlike:Addr} (n_Unlike:nsIn K mainGlobals "Unlike"=some (some (.ref C_Unlike))) (x_Unlike:PySem.W.excIn K C_Unlike bmV newV=true) (d_Unlike:PySem.W.hasDictIn K C_Unlike=true) (y_Unlike:PySem.W.typeIn K (.ref C_Unlike)=some (.type "type"))
  {C_Empty:Addr} (n_Empty:nsIn K mainGlobals "Empty"=some (some (.ref C_Empty))) (x_Empty:PySem.W.excIn K C_Empty bmV newV=true) (d_Empty:PySem.W.hasDictIn K C_Empty=true) (y_Empty:PySem.W.typeIn K (.ref C_Empty)=some (.type "type"))
  {C_TooMany:Addr} (n_TooMany:nsIn K mainGlobals "TooMany"=some (some (.ref C_TooMany))) (x_TooMany:PySem.W.excIn K C_TooMany bmV newV=true) (d_TooMany:PySem.W.hasDictIn K C_TooMany=true) (y_TooMany:PySem.W.typeIn K (.ref C_TooMany)=some (.type "type"))
  {C_NoTree:Addr} (n_NoTree:nsIn K mainGlobals "NoTree"=some (some (.ref C_NoTree))) (x_NoTree:PySem.W.excIn K C_NoTree bmV newV=true) (d_NoTree:PySem.W.hasDictIn K C_NoTree=true) (y_NoTree:PySem.W.typeIn K (.ref C_NoTree)=some (.type "type"))
  {C_NoTelling:Addr} (n_NoTelling:nsIn K mainGlobals "NoTelling"=some (some (.ref C_NoTelling))) (x_NoTelling:PySem.W.excIn K C_NoTelling bmV newV=true) (d_NoTelling:PySem.W.hasDictIn K C_NoTelling=true) (y_NoTelling:PySem.W.typeIn K (.ref C_NoTelling)=some (.type "type"))
  {C_NoPlace:Addr} (n_NoPlace:nsIn K mainGlobals "NoPlace"=some (some (.ref C_NoPlace))) (x_NoPlace:PySem.W.excIn K C_NoPlace bmV newV=true) (d_NoPlace:PySem.W.hasDictIn K C_NoPlace=true) (y_NoPlace:PySem.W.typeIn K (.ref C_NoPlace)=some (.type "type"))
  {C_NoNumber:Addr} (n_NoNumber:nsIn K mainGlobals "NoNumber"=some (some (.ref C_NoNumber))) (x_NoNumber:PySem.W.excIn K C_NoNumber bmV newV=true) (d_NoNumber:PySem.W.hasDictIn K C_NoNumber=true) (y_NoNumber:PySem.W.typeIn K (.ref C_NoNumber)=some (.type "type"))
  {C_NoPast:Addr} (n_NoPast:nsIn K mainGlobals "NoPast"=some (some (.ref C_NoPast))) (x_NoPast:PySem.W.excIn K C_NoPast bmV newV=true) (d_NoPast:PySem.W.hasDictIn K C_NoPast=true) (y_NoPast:PySem.W.typeIn K (.ref C_NoPast)=some (.type "type"))
  {C_NoText:Addr} (n_NoText:nsIn K mainGlobals "NoText"=some (some (.ref C_NoText))) (x_NoText:PySem.W.excIn K C_NoText bmV newV=true) (d_NoText:PySem.W.hasDictIn K C_NoText=true) (y_NoText:PySem.W.typeIn K (.ref C_NoText)=some (.type "type"))
  {C_NoLine:Addr} (n_NoLine:nsIn K mainGlobals "NoLine"=some (some (.ref C_NoLine))) (x_NoLine:PySem.W.excIn K C_NoLine bmV newV=true) (d_NoLine:PySem.W.hasDictIn K C_NoLine=true) (y_NoLine:PySem.W.typeIn K (.ref C_NoLine)=some (.type "type"))
  (z1_NoTree:PySem.W.hasDictIn K C_NoTree=true) (z2_NoTree:PySem.W.findIn K (.ref C_NoTree) "__getattribute__"=some (some (.builtin "BaseException.__getattribute__"))) (z3_NoTree:PySem.W.findIn K (.ref C_NoTree) "__getattr__"=some none) (z4_NoTree:PySem.W.findIn K (.ref C_NoTree) "__class__"=some (some (.builtin "object.__class__"))) (z5_NoTree:PySem.W.specialIn K (.builtin "object.__class__") "__get__"=some (some (.builtin "getset_descriptor.__get__"))) (z6_NoTree:PySem.W.takesIn K (.builtin "object.__class__")=some true) (z7_NoTree:PySem.W.mroIn K C_NoTree (.type "object")=some true) (z8_NoTree:PySem.W.mroIn K C_NoTree (.type "BaseException")=some true)
  (u_NoTree:PySem.W.mroIn K C_NoTree (.ref C_DipError)=some true)
  (i_NoTree_DipError:PySem.W.subIn K (.ref C_NoTree) (.ref C_DipError)=some true) (ne_NoTree_DipError:C_NoTree≠C_DipError)
  (i_NoTree_Unlike:PySem.W.subIn K (.ref C_NoTree) (.ref C_Unlike)=some false) (ne_NoTree_Unlike:C_NoTree≠C_Unlike)
  (i_NoTree_Empty:PySem.W.subIn K (.ref C_NoTree) (.ref C_Empty)=some false) (ne_NoTree_Empty:C_NoTree≠C_Empty)
  (i_NoTree_TooMany:PySem.W.subIn K (.ref C_NoTree) (.ref C_TooMany)=some false) (ne_NoTree_TooMany:C_NoTree≠C_TooMany)
  (i_NoTree_NoTelling:PySem.W.subIn K (.ref C_NoTree) (.ref C_NoTelling)=some false) (ne_NoTree_NoTelling:C_NoTree≠C_NoTelling)
  (i_NoTree_NoPlace:PySem.W.subIn K (.ref C_NoTree) (.ref C_NoPlace)=some false) (ne_NoTree_NoPlace:C_NoTree≠C_NoPlace)
  (i_NoTree_NoNumber:PySem.W.subIn K (.ref C_NoTree) (.ref C_NoNumber)=some false) (ne_NoTree_NoNumber:C_NoTree≠C_NoNumber)
  (i_NoTree_NoPast:PySem.W.subIn K (.ref C_NoTree) (.ref C_NoPast)=some false) (ne_NoTree_NoPast:C_NoTree≠C_NoPast)
  (i_NoTree_NoText:PySem.W.subIn K (.ref C_NoTree) (.ref C_NoText)=some false) (ne_NoTree_NoText:C_NoTree≠C_NoText)
  (i_NoTree_NoLine:PySem.W.subIn K (.ref C_NoTree) (.ref C_NoLine)=some false) (ne_NoTree_NoLine:C_NoTree≠C_NoLine)
  (i_NoTree_V:PySem.W.subIn K (.ref C_NoTree) (.type "ValueError")=some true)
  (z1_Unlike:PySem.W.hasDictIn K C_Unlike=true) (z2_Unlike:PySem.W.findIn K (.ref C_Unlike) "__getattribute__"=some (some (.builtin "BaseException.__getattribute__"))) (z3_Unlike:PySem.W.findIn K (.ref C_Unlike) "__getattr__"=some none) (z4_Unlike:PySem.W.findIn K (.ref C_Unlike) "__class__"=some (some (.builtin "object.__class__"))) (z5_Unlike:PySem.W.specialIn K (.builtin "object.__class__") "__get__"=some (some (.builtin "getset_descriptor.__get__"))) (z6_Unlike:PySem.W.takesIn K (.builtin "object.__class__")=some true) (z7_Unlike:PySem.W.mroIn K C_Unlike (.type "object")=some true) (z8_Unlike:PySem.W.mroIn K C_Unlike (.type "BaseException")=some true)
  (u_Unlike:PySem.W.mroIn K C_Unlike (.ref C_DipError)=some true)
  (i_Unlike_DipError:PySem.W.subIn K (.ref C_Unlike) (.ref C_DipError)=some true) (ne_Unlike_DipError:C_Unlike≠C_DipError)
  (i_Unlike_Empty:PySem.W.subIn K (.ref C_Unlike) (.ref C_Empty)=some false) (ne_Unlike_Empty:C_Unlike≠C_Empty)
  (i_Unlike_TooMany:PySem.W.subIn K (.ref C_Unlike) (.ref C_TooMany)=some false) (ne_Unlike_TooMany:C_Unlike≠C_TooMany)
  (i_Unlike_NoTree:PySem.W.subIn K (.ref C_Unlike) (.ref C_NoTree)=some false) (ne_Unlike_NoTree:C_Unlike≠C_NoTree)
  (i_Unlike_NoTelling:PySem.W.subIn K (.ref C_Unlike) (.ref C_NoTelling)=some false) (ne_Unlike_NoTelling:C_Unlike≠C_NoTelling)
  (i_Unlike_NoPlace:PySem.W.subIn K (.ref C_Unlike) (.ref C_NoPlace)=some false) (ne_Unlike_NoPlace:C_Unlike≠C_NoPlace)
  (i_Unlike_NoNumber:PySem.W.subIn K (.ref C_Unlike) (.ref C_NoNumber)=some false) (ne_Unlike_NoNumber:C_Unlike≠C_NoNumber)
  (i_Unlike_NoPast:PySem.W.subIn K (.ref C_Unlike) (.ref C_NoPast)=some false) (ne_Unlike_NoPast:C_Unlike≠C_NoPast)
  (i_Unlike_NoText:PySem.W.subIn K (.ref C_Unlike) (.ref C_NoText)=some false) (ne_Unlike_NoText:C_Unlike≠C_NoText)
  (i_Unlike_NoLine:PySem.W.subIn K (.ref C_Unlike) (.ref C_NoLine)=some false) (ne_Unlike_NoLine:C_Unlike≠C_NoLine)
  (i_Unlike_V:PySem.W.subIn K (.ref C_Unlike) (.type "ValueError")=some true)
  (ty_tuple:PySem.W.subIn K (.type "tuple") (.ref C_DipError)=some false)
  (ty_bool:PySem.W.subIn K (.type "bool") (.ref C_DipError)=some false)
  (b_ValueError:nsIn K mainGlobals "ValueError"=some none)
  (b_abs:nsIn K mainGlobals "abs"=some none)
  (b_all:nsIn K mainGlobals "all"=some none)
  (b_enumerate:nsIn K mainGlobals "enumerate"=some none)
  (b_isinstance:nsIn K mainGlobals "isinstance"=some none)
  (b_len:nsIn K mainGlobals "len"=some none)
  (b_list:nsIn K mainGlobals "list"=some none)
  (b_max:nsIn K mainGlobals "max"=some none)
  (b_min:nsIn K mainGlobals "min"=some none)
  (b_range:nsIn K mainGlobals "range"=some none)
  (b_sorted:nsIn K mainGlobals "sorted"=some none)
  (b_tuple:nsIn K mainGlobals "tuple"=some none)
  (b_zip:nsIn K mainGlobals "zip"=some none)
  {t_MOST_PLACES:Tok} (m_MOST_PLACES:nsIn K mainGlobals "MOST_PLACES"=some (some (.int 40 t_MOST_PLACES)))
  (nd:[Zbq,ZdL].Nodup)
  : ∃fd:FuncData,(∀(s:Shared) (v:Value),BindsTo s fd ⟨[v],[]⟩ [("script",v)])/\(∀p∈Zfh K mg,p.1∈ts/\K.lookup p.1=none/\∃c,PySem.W.codeHdIn K c p.1=true)/\((Zfh K mg).map (·.1)).Nodup/\∀base:Heap,K.In base->base.Ns mainGlobals mg->BM mg base->FnOk l.prog w K mg base (CXE l.prog w) 9 fa fd ["script"] (ZmX K mg):=by
 have e:=hfa.symm.trans (mg_of X G Zqb)
 cases e
 have q_DipError:clsAt mg "DipError"=C_DipError:=by unfold clsAt;rw[mg_of X G n_DipError]
 have q_Unlike:clsAt mg "Unlike"=C_Unlike:=by unfold clsAt;rw[mg_of X G n_Unlike]
 have q_Empty:clsAt mg "Empty"=C_Empty:=by unfold clsAt;rw[mg_of X G n_Empty]
 have q_TooMany:clsAt mg "TooMany"=C_TooMany:=by unfold clsAt;rw[mg_of X G n_TooMany]
 have q_NoTree:clsAt mg "NoTree"=C_NoTree:=by unfold clsAt;rw[mg_of X G n_NoTree]
 have q_NoTelling:clsAt mg "NoTelling"=C_NoTelling:=by unfold clsAt;rw[mg_of X G n_NoTelling]
 have q_NoPlace:clsAt mg "NoPlace"=C_NoPlace:=by unfold clsAt;rw[mg_of X G n_NoPlace]
 have q_NoNumber:clsAt mg "NoNumber"=C_NoNumber:=by unfold clsAt;rw[mg_of X G n_NoNumber]
 have q_NoPast:clsAt mg "NoPast"=C_NoPast:=by unfold clsAt;rw[mg_of X G n_NoPast]
 have q_NoText:clsAt mg "NoText"=C_NoText:=by unfold clsAt;rw[mg_of X G n_NoText]
 have q_NoLine:clsAt mg "NoLine"=C_NoLine:=by unfold clsAt;rw[mg_of X G n_NoLine]
 have q_MOST_PLACES:tokAt mg "MOST_PLACES"=t_MOST_PLACES:=by unfold tokAt;rw[mg_of X G m_MOST_PLACES]
 have T:Txt K mg:={
  b_ValueError:=mg_none_of X G b_ValueError
  b_abs:=mg_none_of X G b_abs
  b_all:=mg_none_of X G b_all
  b_enumerate:=mg_none_of X G b_enumerate
  b_isinstance:=mg_none_of X G b_isinstance
  b_len:=mg_none_of X G b_len
  b_list:=mg_none_of X G b_list
  b_max:=mg_none_of X G b_max
  b_min:=mg_none_of X G b_min
  b_range:=mg_none_of X G b_range
  b_sorted:=mg_none_of X G b_sorted
  b_tuple:=mg_none_of X G b_tuple
  b_zip:=mg_none_of X G b_zip
  c_DipError:=by rw[q_DipError];exact mg_of X G n_DipError
  x_DipError:=by rw[q_DipError];exact x_DipError
  c_Unlike:=by rw[q_Unlike];exact mg_of X G n_Unlike
  x_Unlike:=by rw[q_Unlike];exact x_Unlike
  c_Empty:=by rw[q_Empty];exact mg_of X G n_Empty
  x_Empty:=by rw[q_Empty];exact x_Empty
  c_TooMany:=by rw[q_TooMany];exact mg_of X G n_TooMany
  x_TooMany:=by rw[q_TooMany];exact x_TooMany
  c_NoTree:=by rw[q_NoTree];exact mg_of X G n_NoTree
  x_NoTree:=by rw[q_NoTree];exact x_NoTree
  c_NoTelling:=by rw[q_NoTelling];exact mg_of X G n_NoTelling
  x_NoTelling:=by rw[q_NoTelling];exact x_NoTelling
  c_NoPlace:=by rw[q_NoPlace];exact mg_of X G n_NoPlace
  x_NoPlace:=by rw[q_NoPlace];exact x_NoPlace
  c_NoNumber:=by rw[q_NoNumber];exact mg_of X G n_NoNumber
  x_NoNumber:=by rw[q_NoNumber];exact x_NoNumber
  c_NoPast:=by rw[q_NoPast];exact mg_of X G n_NoPast
  x_NoPast:=by rw[q_NoPast];exact x_NoPast
  c_NoText:=by rw[q_NoText];exact mg_of X G n_NoText
  x_NoText:=by rw[q_NoText];exact x_NoText
  c_NoLine:=by rw[q_NoLine];exact mg_of X G n_NoLine
  x_NoLine:=by rw[q_NoLine];exact x_NoLine
  ex_NoTree:=by rw[q_NoTree];exact⟨z1_NoTree,z2_NoTree,z3_NoTree,z4_NoTree,z5_NoTree,z6_NoTree,z7_NoTree,z8_NoTree⟩
  up_NoTree:=by rw[q_NoTree,q_DipError];exact u_NoTree
  is_NoTree_DipError:=by rw[q_NoTree,q_DipError];exact ZV ne_NoTree_DipError d_DipError y_DipError i_NoTree_DipError
  is_NoTree_Unlike:=by rw[q_NoTree,q_Unlike];exact ZV ne_NoTree_Unlike d_Unlike y_Unlike i_NoTree_Unlike
  is_NoTree_Empty:=by rw[q_NoTree,q_Empty];exact ZV ne_NoTree_Empty d_Empty y_Empty i_NoTree_Empty
  is_NoTree_TooMany:=by rw[q_NoTree,q_TooMany];exact ZV ne_NoTree_TooMany d_TooMany y_TooMany i_NoTree_TooMany
  is_NoTree_NoTree:=by rw[q_NoTree];exact ZkB
  is_NoTree_NoTelling:=by rw[q_NoTree,q_NoTelling];exact ZV ne_NoTree_NoTelling d_NoTelling y_NoTelling i_NoTree_NoTelling
  is_NoTree_NoPlace:=by rw[q_NoTree,q_NoPlace];exact ZV ne_NoTree_NoPlace d_NoPlace y_NoPlace i_NoTree_NoPlace
  is_NoTree_NoNumber:=by rw[q_NoTree,q_NoNumber];exact ZV ne_NoTree_NoNumber d_NoNumber y_NoNumber i_NoTree_NoNumber
  is_NoTree_NoPast:=by rw[q_NoTree,q_NoPast];exact ZV ne_NoTree_NoPast d_NoPast y_NoPast i_NoTree_NoPast
  is_NoTree_NoText:=by rw[q_NoTree,q_NoText];exact ZV ne_NoTree_NoText d_NoText y_NoText i_NoTree_NoText
  is_NoTree_NoLine:=by rw[q_NoTree,q_NoLine];exact ZV ne_NoTree_NoLine d_NoLine y_NoLine i_NoTree_NoLine
  is_NoTree_V:=by rw[q_NoTree];exact kit_V i_NoTree_V
  ex_Unlike:=by rw[q_Unlike];exact⟨z1_Unlike,z2_Unlike,z3_Unlike,z4_Unlike,z5_Unlike,z6_Unlike,z7_Unlike,z8_Unlike⟩
  up_Unlike:=by rw[q_Unlike,q_DipError];exact u_Unlike
  is_Unlike_DipError:=by rw[q_Unlike,q_DipError];exact ZV ne_Unlike_DipError d_DipError y_DipError i_Unlike_DipError
  is_Unlike_Unlike:=by rw[q_Unlike];exact ZkB
  is_Unlike_Empty:=by rw[q_Unlike,q_Empty];exact ZV ne_Unlike_Empty d_Empty y_Empty i_Unlike_Empty
  is_Unlike_TooMany:=by rw[q_Unlike,q_TooMany];exact ZV ne_Unlike_TooMany d_TooMany y_TooMany i_Unlike_TooMany
  is_Unlike_NoTree:=by rw[q_Unlike,q_NoTree];exact ZV ne_Unlike_NoTree d_NoTree y_NoTree i_Unlike_NoTree
  is_Unlike_NoTelling:=by rw[q_Unlike,q_NoTelling];exact ZV ne_Unlike_NoTelling d_NoTelling y_NoTelling i_Unlike_NoTelling
  is_Unlike_NoPlace:=by rw[q_Unlike,q_NoPlace];exact ZV ne_Unlike_NoPlace d_NoPlace y_NoPlace i_Unlike_NoPlace
  is_Unlike_NoNumber:=by rw[q_Unlike,q_NoNumber];exact ZV ne_Unlike_NoNumber d_NoNumber y_NoNumber i_Unlike_NoNumber
  is_Unlike_NoPast:=by rw[q_Unlike,q_NoPast];exact ZV ne_Unlike_NoPast d_NoPast y_NoPast i_Unlike_NoPast
  is_Unlike_NoText:=by rw[q_Unlike,q_NoText];exact ZV ne_Unlike_NoText d_NoText y_NoText i_Unlike_NoText
  is_Unlike_NoLine:=by rw[q_Unlike,q_NoLine];exact ZV ne_Unlike_NoLine d_NoLine y_NoLine i_Unlike_NoLine
  is_Unlike_V:=by rw[q_Unlike];exact kit_V i_Unlike_V
  ty_tuple:=by rw[q_DipError];exact ZpJ d_DipError y_DipError ty_tuple
  ty_bool:=by rw[q_DipError];exact ZpJ d_DipError y_DipError ty_bool
  m_MOST_PLACES:=by rw[q_MOST_PLACES];exact mg_of X G m_MOST_PLACES
 }
 subst ZcK
 have Zao:=ZmR (mg_of X G ZbN) ZbO rfl ZcL ZcM
 have Zkf:LamD K mg "from_below" ZdE:=⟨Zbp,Zao.2,by rw[Zao.1];exact Zbr⟩
 subst ZfC
 have Zbm:=ZmR (mg_of X G Zfb) Zfc rfl ZfD ZfE
 have Zoa:LamD K mg "nearest" ZgZ:=⟨ZdK,Zbm.2,by rw[Zbm.1];exact ZdM⟩
 have Zlg:=ZG (st:=Zc6) Zh4 Zh5 Zgg
 have Zqg:=Zlg.binds (ps:=["elders","spine","place","keep"]) λ_ _ _ _ _ _ us hl=>by obtain⟨x0,u0,rfl,h0⟩:=le1 hl;obtain⟨x1,u1,rfl,h1⟩:=le1 h0;obtain⟨x2,u2,rfl,h2⟩:=le1 h1;obtain⟨x3,u3,rfl,h3⟩:=le1 h2;obtain rfl:=le0 h3;exact rfl
 have Zjr:=ZG (st:=ZbY) ZgR ZgS Ze8
 have Zob:=Zjr.binds (ps:=["row"]) λ_ _ _ _ _ _ us hl=>by obtain⟨x0,u0,rfl,h0⟩:=le1 hl;obtain rfl:=le0 h0;exact rfl
 have Zlh:=ZG (st:=Zc7) Zh7 Zh8 Zgh
 have Zqh:=Zlh.binds (ps:=["tree","place"]) λ_ _ _ _ _ _ us hl=>by obtain⟨x0,u0,rfl,h0⟩:=le1 hl;obtain⟨x1,u1,rfl,h1⟩:=le1 h0;obtain rfl:=le0 h1;exact rfl
 have Zjs:=ZG (st:=ZbZ) ZgU ZgV Ze9
 have Zoc:=Zjs.binds (ps:=["tree"]) λ_ _ _ _ _ _ us hl=>by obtain⟨x0,u0,rfl,h0⟩:=le1 hl;obtain rfl:=le0 h0;exact rfl
 have Zhd:=ZG (st:=ZaV) ZeE ZeF Zcr
 have Zli:=Zhd.binds (ps:=["tree"]) λ_ _ _ _ _ _ us hl=>by obtain⟨x0,u0,rfl,h0⟩:=le1 hl;obtain rfl:=le0 h0;exact rfl
 have Zgr:=ZG (st:=ZaB) ZbO ZdF ZbP
 have Zkg:=Zgr.binds (ps:=["tree"]) λ_ _ _ _ _ _ us hl=>by obtain⟨x0,u0,rfl,h0⟩:=le1 hl;obtain rfl:=le0 h0;exact rfl
 have Zfm:=ZG (st:=Zal) ZcQ ZcR Zbs
 have ZiZ:=Zfm.binds (ps:=["tree","place"]) λ_ _ _ _ _ _ us hl=>by obtain⟨x0,u0,rfl,h0⟩:=le1 hl;obtain⟨x1,u1,rfl,h1⟩:=le1 h0;obtain rfl:=le0 h1;exact rfl
 have Ziq:=ZG (st:=Zbe) ZfA ZfB ZdG
 have Zmh:=Ziq.binds (ps:=["tree"]) λ_ _ _ _ _ _ us hl=>by obtain⟨x0,u0,rfl,h0⟩:=le1 hl;obtain rfl:=le0 h0;exact rfl
 have Zgs:=ZG (st:=ZaC) ZdI ZdJ ZbQ
 have Zkh:=Zgs.binds (ps:=["flat","row"]) λ_ _ _ _ _ _ us hl=>by obtain⟨x0,u0,rfl,h0⟩:=le1 hl;obtain⟨x1,u1,rfl,h1⟩:=le1 h0;obtain rfl:=le0 h1;exact rfl
 have Zlj:=ZG (st:=Zc8) Zic Zid Zgj
 have Zqi:=Zlj.binds (ps:=["flat","heights"]) λ_ _ _ _ _ _ us hl=>by obtain⟨x0,u0,rfl,h0⟩:=le1 hl;obtain⟨x1,u1,rfl,h1⟩:=le1 h0;obtain rfl:=le0 h1;exact rfl
 have Zlk:=ZG (st:=Zc9) Zif Zig Zgk
 have Zqj:=Zlk.binds (ps:=["tree","heights"]) λ_ _ _ _ _ _ us hl=>by obtain⟨x0,u0,rfl,h0⟩:=le1 hl;obtain⟨x1,u1,rfl,h1⟩:=le1 h0;obtain rfl:=le0 h1;exact rfl
 have Zjt:=ZG (st:=Zb0) ZgX ZgY Zfa
 have Zod:=Zjt.binds (ps:=["tree","a","b"]) λ_ _ _ _ _ _ us hl=>by obtain⟨x0,u0,rfl,h0⟩:=le1 hl;obtain⟨x1,u1,rfl,h1⟩:=le1 h0;obtain⟨x2,u2,rfl,h2⟩:=le1 h1;obtain rfl:=le0 h2;exact rfl
 have ZeV:=ZG (st:=Zab) Zcf Zcg Zba
 have Zir:=ZeV.binds (ps:=["tree","heights"]) λ_ _ _ _ _ _ us hl=>by obtain⟨x0,u0,rfl,h0⟩:=le1 hl;obtain⟨x1,u1,rfl,h1⟩:=le1 h0;obtain rfl:=le0 h1;exact rfl
 have Zju:=ZG (st:=Zb1) Zfc Zg0 Zfd
 have Zoe:=Zju.binds (ps:=["tree","row"]) λ_ _ _ _ _ _ us hl=>by obtain⟨x0,u0,rfl,h0⟩:=le1 hl;obtain⟨x1,u1,rfl,h1⟩:=le1 h0;obtain rfl:=le0 h1;exact rfl
 have Zgt:=ZG (st:=ZaD) ZdO ZdP ZbR
 have Zki:=Zgt.binds (ps:=["tree","heights","far","pair"]) λ_ _ _ _ _ _ us hl=>by obtain⟨x0,u0,rfl,h0⟩:=le1 hl;obtain⟨x1,u1,rfl,h1⟩:=le1 h0;obtain⟨x2,u2,rfl,h2⟩:=le1 h1;obtain⟨x3,u3,rfl,h3⟩:=le1 h2;obtain rfl:=le0 h3;exact rfl
 have Zeb:=ZG (st:=Z2) ZbH ZbI ZaQ
 have Zhr:=Zeb.binds (ps:=["tree","row","far","made","pair"]) λ_ _ _ _ _ _ us hl=>by obtain⟨x0,u0,rfl,h0⟩:=le1 hl;obtain⟨x1,u1,rfl,h1⟩:=le1 h0;obtain⟨x2,u2,rfl,h2⟩:=le1 h1;obtain⟨x3,u3,rfl,h3⟩:=le1 h2;obtain⟨x4,u4,rfl,h4⟩:=le1 h3;obtain rfl:=le0 h4;exact rfl
 have Zll:=ZG (st:=Zda) Zij Zik Zgm
 have Zqk:=Zll.binds (ps:=["tree","least","greatest"]) λ_ _ _ _ _ _ us hl=>by obtain⟨x0,u0,rfl,h0⟩:=le1 hl;obtain⟨x1,u1,rfl,h1⟩:=le1 h0;obtain⟨x2,u2,rfl,h2⟩:=le1 h1;obtain rfl:=le0 h2;exact rfl
 have Zgu:=ZG (st:=ZaE) ZdR ZdS ZbS
 have Zkj:=Zgu.binds (ps:=["tree","floors","roofs","heights"]) λ_ _ _ _ _ _ us hl=>by obtain⟨x0,u0,rfl,h0⟩:=le1 hl;obtain⟨x1,u1,rfl,h1⟩:=le1 h0;obtain⟨x2,u2,rfl,h2⟩:=le1 h1;obtain⟨x3,u3,rfl,h3⟩:=le1 h2;obtain rfl:=le0 h3;exact rfl
 have Zis:=ZG (st:=Zbf) ZfI ZfJ ZdT
 have Zmi:=Zis.binds (ps:=["tree","floors","roofs","a","b"]) λ_ _ _ _ _ _ us hl=>by obtain⟨x0,u0,rfl,h0⟩:=le1 hl;obtain⟨x1,u1,rfl,h1⟩:=le1 h0;obtain⟨x2,u2,rfl,h2⟩:=le1 h1;obtain⟨x3,u3,rfl,h3⟩:=le1 h2;obtain⟨x4,u4,rfl,h4⟩:=le1 h3;obtain rfl:=le0 h4;exact rfl
 have ZeW:=ZG (st:=Zac) Zci Zcj Zbb
 have Zit:=ZeW.binds (ps:=["tree","least","greatest","told"]) λ_ _ _ _ _ _ us hl=>by obtain⟨x0,u0,rfl,h0⟩:=le1 hl;obtain⟨x1,u1,rfl,h1⟩:=le1 h0;obtain⟨x2,u2,rfl,h2⟩:=le1 h1;obtain⟨x3,u3,rfl,h3⟩:=le1 h2;obtain rfl:=le0 h3;exact rfl
 have Zhe:=ZG (st:=ZaW) ZeJ ZeK Zcs
 have Zlm:=Zhe.binds (ps:=["script","k"]) λ_ _ _ _ _ _ us hl=>by obtain⟨x0,u0,rfl,h0⟩:=le1 hl;obtain⟨x1,u1,rfl,h1⟩:=le1 h0;obtain rfl:=le0 h1;exact rfl
 have Zhf:=ZG (st:=ZaX) ZeM ZeN Zct
 have Zln:=Zhf.binds (ps:=["pot","many"]) λ_ _ _ _ _ _ us hl=>by obtain⟨x0,u0,rfl,h0⟩:=le1 hl;obtain⟨x1,u1,rfl,h1⟩:=le1 h0;obtain rfl:=le0 h1;exact rfl
 have Ziu:=ZG (st:=Zbg) ZfL ZfM ZdU
 have Zmj:=Ziu.binds (ps:=["pot","most"]) λ_ _ _ _ _ _ us hl=>by obtain⟨x0,u0,rfl,h0⟩:=le1 hl;obtain⟨x1,u1,rfl,h1⟩:=le1 h0;obtain rfl:=le0 h1;exact rfl
 have Zgv:=ZG (st:=ZaF) ZdW ZdX ZbT
 have Zkk:=Zgv.binds (ps:=["row","place"]) λ_ _ _ _ _ _ us hl=>by obtain⟨x0,u0,rfl,h0⟩:=le1 hl;obtain⟨x1,u1,rfl,h1⟩:=le1 h0;obtain rfl:=le0 h1;exact rfl
 have Zhg:=ZG (st:=ZaY) ZeP ZeQ Zcu
 have Zlo:=Zhg.binds (ps:=["row"]) λ_ _ _ _ _ _ us hl=>by obtain⟨x0,u0,rfl,h0⟩:=le1 hl;obtain rfl:=le0 h0;exact rfl
 have Zgw:=ZG (st:=ZaG) ZdZ Zd0 ZbU
 have Zkl:=Zgw.binds (ps:=["e","place"]) λ_ _ _ _ _ _ us hl=>by obtain⟨x0,u0,rfl,h0⟩:=le1 hl;obtain⟨x1,u1,rfl,h1⟩:=le1 h0;obtain rfl:=le0 h1;exact rfl
 have Zfn:=ZG (st:=Zam) ZcT ZcU Zbt
 have Zi0:=Zfn.binds (ps:=["pot","some"]) λ_ _ _ _ _ _ us hl=>by obtain⟨x0,u0,rfl,h0⟩:=le1 hl;obtain⟨x1,u1,rfl,h1⟩:=le1 h0;obtain rfl:=le0 h1;exact rfl
 have ZeX:=ZG (st:=Zad) Zcl Zcm Zbc
 have Ziv:=ZeX.binds (ps:=["tree"]) λ_ _ _ _ _ _ us hl=>by obtain⟨x0,u0,rfl,h0⟩:=le1 hl;obtain rfl:=le0 h0;exact rfl
 have Zhh:=ZG (st:=ZaZ) ZeT ZeU Zcv
 have Zlp:=Zhh.binds (ps:=["pot","tree"]) λ_ _ _ _ _ _ us hl=>by obtain⟨x0,u0,rfl,h0⟩:=le1 hl;obtain⟨x1,u1,rfl,h1⟩:=le1 h0;obtain rfl:=le0 h1;exact rfl
 have Zec:=ZG (st:=Z3) ZbK ZbL ZaR
 have Zhs:=Zec.binds (ps:=["pot"]) λ_ _ _ _ _ _ us hl=>by obtain⟨x0,u0,rfl,h0⟩:=le1 hl;obtain rfl:=le0 h0;exact rfl
 have Zgx:=ZG (st:=ZaH) Zd2 Zd3 ZbV
 have Zkm:=Zgx.binds (ps:=["which","tree","row","other"]) λ_ _ _ _ _ _ us hl=>by obtain⟨x0,u0,rfl,h0⟩:=le1 hl;obtain⟨x1,u1,rfl,h1⟩:=le1 h0;obtain⟨x2,u2,rfl,h2⟩:=le1 h1;obtain⟨x3,u3,rfl,h3⟩:=le1 h2;obtain rfl:=le0 h3;exact rfl
 have Ziw:=ZG (st:=Zbh) ZfO ZfP Zd4
 have Zmk:=Ziw.binds (ps:=["which","tree","row","other"]) λ_ _ _ _ _ _ us hl=>by obtain⟨x0,u0,rfl,h0⟩:=le1 hl;obtain⟨x1,u1,rfl,h1⟩:=le1 h0;obtain⟨x2,u2,rfl,h2⟩:=le1 h1;obtain⟨x3,u3,rfl,h3⟩:=le1 h2;obtain rfl:=le0 h3;exact rfl
 have Zt9:=ZG (st:=Zge) Zqc Zqe Zqf
 refine⟨fnOf "law" "law" (defArgs Zge) (defBody Zge) (defScope Zge) .none Ztq Ztr Zts Ztt Zqd Ztu,λs v=>.of_eq rfl,?tb,?nd,λbase _ _ B=>?_⟩
 case tb =>
  intro p hp
  unfold Zfh at hp
  simp only[Ym,List.not_mem_nil,or_false]at hp
  rcases hp with rfl|rfl
  ·exact⟨by rw[Zao.1];exact ZcO,by rw[Zao.1];exact ZcN,Zbp,by rw[Zao.1];exact Zbr⟩
  ·exact⟨by rw[Zbm.1];exact ZfG,by rw[Zbm.1];exact ZfF,ZdK,by rw[Zbm.1];exact ZdM⟩
 case nd =>
  unfold Zfh
  simp only[YO,List.map_nil]
  rw[Zao.1,Zbm.1]
  exact nd
 have ZeC:Callee l.prog w K mg base "_law_deal" 1 ["script","k"] (Zdr K mg):=⟨_,_,mg_of X G ZeI,Zcs,Zlm,Zj4 Zhe T⟩
 have Zm:Callee l.prog w K mg base "_law_take" 1 ["pot","many"] (Zag K mg):=⟨_,_,mg_of X G ZeL,Zct,Zln,Zj5 Zhf T⟩
 have ZdC:Callee l.prog w K mg base "_law_alone" 1 ["e","place"] (ZcD K mg):=⟨_,_,mg_of X G ZdY,ZbU,Zkl,ZiQ Zgw T⟩
 have Zbo:Callee l.prog w K mg base "_law_either" 2 ["pot","some"] (Zca K mg):=⟨_,_,mg_of X G ZcS,Zbt,Zi0,ZhX Zfn Zm T⟩
 have Zfx:Callee l.prog w K mg base "_law_row" 2 ["pot","most"] (Zew K mg):=⟨_,_,mg_of X G ZfK,ZdU,Zmj,ZkY Ziu Zm T⟩
 have Zdy:Callee l.prog w K mg base "_law_elder" 1 ["row","place"] (Zcz K mg):=⟨_,_,mg_of X G ZdV,ZbT,Zkk,ZiL Zgv T⟩
 have Za3:Callee l.prog w K mg base "_law_tree" 2 ["row"] (ZbM K mg):=⟨_,_,mg_of X G ZeO,Zcu,Zlo,Zj6 Zhg Zdy T⟩
 have ZeB:Callee l.prog w K mg base "_law_bent" 2 ["pot","tree"] (Zdv K mg):=⟨_,_,mg_of X G ZeS,Zcv,Zlp,Zj9 Zhh Zm T⟩
 have ZbF:Callee l.prog w K mg base "_law_any_tree" 3 ["pot"] (Zbj K mg):=⟨_,_,mg_of X G ZbJ,ZaR,Zhs,ZgN Zec Zm Zfx Za3 ZeB T⟩
 have Zh1:Callee l.prog w K mg base "settle" 1 ["elders","spine","place","keep"] (ZgG K mg):=⟨_,_,mg_of X G Zh3,Zgg,Zqg,ZnG Zlg T⟩
 have Zb2:Callee l.prog w K mg base "tree_of" 2 ["row"] (Zds K mg):=⟨_,_,mg_of X G ZgQ,Ze8,Zob,Zl6 Zjr Zh1 T⟩
 have ZP:Callee l.prog w K mg base "way_up" 1 ["tree","place"] (Za0 K mg):=⟨_,_,mg_of X G Zh6,Zgh,Zqh,ZnH Zlh T⟩
 have ZgO:Callee l.prog w K mg base "is_tree" 3 ["tree"] (Zfu K mg):=⟨_,_,mg_of X G ZgT,Ze9,Zoc,Zl7 Zjs Zb2 ZP T⟩
 have ZeA:Callee l.prog w K mg base "need_tree" 4 ["tree"] (Zdt K mg):=⟨_,_,mg_of X G ZeD,Zcr,Zli,Zj7 Zhd ZgO T⟩
 have ZcJ:Callee l.prog w K mg base "flat_number" 2 ["tree","place"] (Zb9 K mg):=⟨_,_,mg_of X G ZcP,Zbs,ZiZ,ZhW Zfm ZP T⟩
 have ZX:Callee l.prog w K mg base "flattest" 5 ["tree"] (Za1 K mg):=⟨_,_,mg_of X G Zfz,ZdG,Zmh,ZkZ Ziq ZeA ZcJ T⟩
 have ZA:Callee l.prog w K mg base "heights_of" 1 ["flat","row"] (Zan K mg):=⟨_,_,mg_of X G ZdH,ZbQ,Zkh,ZiM Zgs T⟩
 have Zdb:Callee l.prog w K mg base "row_by" 1 ["flat","heights"] (Ze4 K mg):=⟨_,_,mg_of X G Zib,Zgj,Zqi,ZnL Zlj T⟩
 have ZdA:Callee l.prog w K mg base "from_below" 5 ["tree"] (ZcA K mg):=⟨_,_,mg_of X G ZbN,ZbP,Zkg,ZiO Zgr ZP Zkf B T⟩
 have Zdc:Callee l.prog w K mg base "lifted" 6 ["tree","heights"] (Ze5 K mg):=⟨_,_,mg_of X G Zie,Zgk,Zqj,ZnM Zlk ZdA T⟩
 have Zcb:Callee l.prog w K mg base "higher_pairs" 2 ["tree","heights"] (ZbB K mg):=⟨_,_,mg_of X G Zce,Zba,Zir,Zhl ZeV ZP T⟩
 have ZgP:Callee l.prog w K mg base "nearest" 7 ["tree","row"] (Zfv K mg):=⟨_,_,mg_of X G Zfb,Zfd,Zoe,Zmc Zju ZX ZA Zdb Zdc Zcb Zoa B T⟩
 have Zb3:Callee l.prog w K mg base "is_over" 2 ["tree","a","b"] (Zdu K mg):=⟨_,_,mg_of X G ZgW,Zfa,Zod,Zmb Zjt ZP T⟩
 have ZdB:Callee l.prog w K mg base "pair_shows" 3 ["tree","heights","far","pair"] (ZcC K mg):=⟨_,_,mg_of X G ZdN,ZbR,Zki,ZiP Zgt Zb3 T⟩
 have ZbE:Callee l.prog w K mg base "nearest_right" 6 ["tree","row","far","made","pair"] (Zbi K mg):=⟨_,_,mg_of X G ZbG,ZaQ,Zhr,ZgM Zeb Zb2 ZX ZA ZdB T⟩
 have Zh2:Callee l.prog w K mg base "fitted" 7 ["tree","least","greatest"] (ZgI K mg):=⟨_,_,mg_of X G Zii,Zgm,Zqk,ZnN Zll ZP ZX ZA Zdb Zdc T⟩
 have Zdz:Callee l.prog w K mg base "fits_least" 1 ["tree","floors","roofs","heights"] (ZcB K mg):=⟨_,_,mg_of X G ZdQ,ZbS,Zkj,ZiN Zgu T⟩
 have Zfw:Callee l.prog w K mg base "is_clash" 3 ["tree","floors","roofs","a","b"] (Zex K mg):=⟨_,_,mg_of X G ZfH,ZdT,Zmi,Zk4 Zis Zb3 T⟩
 have Zcc:Callee l.prog w K mg base "fitted_right" 6 ["tree","least","greatest","told"] (ZbC K mg):=⟨_,_,mg_of X G Zch,Zbb,Zit,Zhm ZeW ZX ZA Zdz Zfw T⟩
 have ZdD:Callee l.prog w K mg base "_law_asked" 8 ["which","tree","row","other"] (ZcE K mg):=⟨_,_,mg_of X G Zd1,ZbV,Zkm,ZiR Zgx ZgP ZbE Zh2 Zcc T⟩
 have Zcd:Callee l.prog w K mg base "_law_is_tree" 3 ["tree"] (ZbD K mg):=⟨_,_,mg_of X G Zck,Zbc,Ziv,Zhn ZeX Za3 T⟩
 have Zfy:Callee l.prog w K mg base "_law_due" 4 ["which","tree","row","other"] (Zey K mg):=⟨_,_,mg_of X G ZfN,Zd4,Zmk,Zk6 Ziw Zcd T⟩
 exact ok_law Zt9 ZeC Zm ZdC Zbo ZbF ZdD Zfy T
theorem walk {l:PySem.W.OpenLaw}{q:Program}{loose:List Str}{XP:(Str->Option Value)->Heap->Prop}{YP:World->Heap->Prop}{d:DefRec}{K:Params->PySem.W.Frag}{ts:List Addr} (hn:l.most=some 63) (hdf:d.params.defaults=[])
  (hY:∀(w:World) (h:Heap),YP w h->(K w.params).In h) (hY2:∀(w:World) (h:Heap),YP w h->∀P∈ts,h.get? P=some (PySem.W.tabObj #[]))
  (F:∀(w:World) (mg:Str->Option Value) (fa:Addr) (h:Heap),(K w.params).In h->h.Ns mainGlobals mg->mg d.name=some (.ref fa) ->
   ∃fd:FuncData,(∀(s:Shared) (u:Value),BindsTo s fd ⟨[u],[]⟩ [("script",u)])/\(∀p∈Zfh (K w.params) mg,p.1∈ts/\(K w.params).lookup p.1=none/\∃c,PySem.W.codeHdIn (K w.params) c p.1=true)/\((Zfh (K w.params) mg).map (·.1)).Nodup/\∀base:Heap,(K w.params).In base->base.Ns mainGlobals mg->BM mg base->FnOk l.prog w (K w.params) mg base (CXE l.prog w) 9 fa fd ["script"] (ZmX (K w.params) mg)) :
  PySem.W.WalkO q loose XP YP l.row.toRowW d [] (λf vs=>PySem.call f vs) :=
 L2.Zpy (n:=63) (k:=9) (x:="script") (ts:=ts) (tabs:=Zfh) (CX:=λw=>CXE l.prog w) (sp:=λw mg=>ZmX (K w.params) mg) hn (by decide) hdf ⟨rfl,by decide,by decide⟩ hY hY2 F (λ_ _ _ a ns hl hS hT=>⟨a,ns,rfl,hS,hl,hT,λ_=>rfl⟩) λ_ _ _ _ _ ⟨_,_,_,_,_,_,_,z⟩=>z
end K59
def PySem.W.Fast.tw13509273805883623435:Unit:=()
def PySem.W.Fast.tw8440713564400123115:Unit:=()
def PySem.W.Fast.tw12393985971698093553:Unit:=()
def PySem.W.Fast.tw15306654586135180517:Unit:=()
def PySem.W.Fast.tw3287545507946583722:Unit:=()
def PySem.W.Fast.tw10933798419924680486:Unit:=()
def PySem.W.Fast.tw15217059382501292326:Unit:=()
def PySem.W.Fast.tw1152828598396256505:Unit:=()
def PySem.W.Fast.tw9258043443885852318:Unit:=()
def PySem.W.Fast.tw8604298781965673984:Unit:=()
def PySem.W.Fast.tw10128432910686377668:Unit:=()
def PySem.W.Fast.tw10497293825100436026:Unit:=()
def PySem.W.Fast.tw12613177187041062809:Unit:=()
def PySem.W.Fast.tw1976767767843343922:Unit:=()
def PySem.W.Fast.tw15646996954056225134:Unit:=()
def PySem.W.Fast.tw6948955085306517229:Unit:=()
def PySem.W.Fast.tw3856615243979086773:Unit:=()
def PySem.W.Fast.tw3674047088166442410:Unit:=()
def PySem.W.Fast.tw9164142002800041820:Unit:=()
def PySem.W.Fast.tw17043204976371223047:Unit:=()
def PySem.W.Fast.tw13598440673726848666:Unit:=()
def PySem.W.Fast.tw4329397640676539023:Unit:=()
def PySem.W.Fast.tw5943200273250456486:Unit:=()
def PySem.W.Fast.tw5911947185982890592:Unit:=()
def PySem.W.Fast.tw15896679735869306964:Unit:=()
def PySem.W.Fast.tw7976040092433609646:Unit:=()
def PySem.W.Fast.tw8295832492926424957:Unit:=()
def PySem.W.Fast.tw5584477934852370975:Unit:=()
def PySem.W.Fast.tw9883156965513770154:Unit:=()
def PySem.W.Fast.tw16708157969567872787:Unit:=()
def PySem.W.Fast.tw4854660823727491449:Unit:=()
def PySem.W.Fast.tw14386130177526252954:Unit:=()
def PySem.W.Fast.tw17864323064264617035:Unit:=()
def PySem.W.Fast.tw15222818227544585116:Unit:=()
def PySem.W.Fast.tw8774534365433548987:Unit:=()
def PySem.W.Fast.tw4812099125711938618:Unit:=()
def PySem.W.Fast.tw8357323426976164923:Unit:=()
def PySem.W.Fast.tw11476014332748378283:Unit:=()
def PySem.W.Fast.tw9276001227688873824:Unit:=()
def PySem.W.Fast.tw8145229507862132357:Unit:=()
def PySem.W.Fast.tw18349875177129084235:Unit:=()
def PySem.W.Fast.tw8023499295385173620:Unit:=()
def PySem.W.Fast.tw4438829417071986587:Unit:=()
def PySem.W.Fast.tw7805040618560114951:Unit:=()
def PySem.W.Fast.tw6425255086169702407:Unit:=()
def PySem.W.Fast.tw1511737632099650511:Unit:=()
def PySem.W.Fast.tw2802552760732882083:Unit:=()
def PySem.W.Fast.tw13496807047536262984:Unit:=()
def PySem.W.Fast.tw17542900167658657050:Unit:=()
def PySem.W.Fast.tw3162471922411949719:Unit:=()
def PySem.W.Fast.tw18436540585096072494:Unit:=()
def PySem.W.Fast.tw13058231611608152122:Unit:=()
def PySem.W.Fast.tw14296794676958210356:Unit:=()
def PySem.W.Fast.tw16577633842670998191:Unit:=()
def PySem.W.Fast.tw18356106196569755166:Unit:=()
def PySem.W.Fast.tw6688426078015908933:Unit:=()
def PySem.W.Fast.tw1569998362629700097:Unit:=()
def PySem.W.Fast.tw13543312507326608042:Unit:=()
def PySem.W.Fast.tw14784041890740080461:Unit:=()
def PySem.W.Fast.tw4302627743194823822:Unit:=()
def PySem.W.Fast.tw17355095643303808520:Unit:=()
def PySem.W.Fast.tw15289917037500101314:Unit:=()
def PySem.W.Fast.tw3175444620628512631:Unit:=()
def PySem.W.Fast.tw12310454005703985650:Unit:=()
def PySem.W.Fast.tw15184552836762240179:Unit:=()
def PySem.W.Fast.tw10797434183449165731:Unit:=()
def PySem.W.Fast.tw17609506251127607577:Unit:=()
def PySem.W.Fast.tw7900979565574372028:Unit:=()
def PySem.W.Fast.tw296041325770214138:Unit:=()
def PySem.W.Fast.tw8291921878996656413:Unit:=()
def PySem.W.Fast.tw8468504604475990796:Unit:=()
def PySem.W.Fast.tw11973007806244472750:Unit:=()
def PySem.W.Fast.tw732439836330729160:Unit:=()
def PySem.W.Fast.tw4352632307958476650:Unit:=()
def PySem.W.Fast.tw6394647294679545001:Unit:=()
def PySem.W.Fast.tw1516324594342036602:Unit:=()
def PySem.W.Fast.tw15810228286126453039:Unit:=()
def PySem.W.Fast.tw18279120513546773587:Unit:=()
def PySem.W.Fast.tw3892461257635466990:Unit:=()
def PySem.W.Fast.tw5793365208810192207:Unit:=()
def PySem.W.Fast.tw8997898798148474739:Unit:=()
def PySem.W.Fast.tw13967719227765983201:Unit:=()
def PySem.W.Fast.tw664519560048387763:Unit:=()
def PySem.W.Fast.tw7173737977403180918:Unit:=()
def PySem.W.Fast.tw10833722477976959200:Unit:=()
def PySem.W.Fast.tw11308349104845575760:Unit:=()
def PySem.W.Fast.tw9230606822089289548:Unit:=()
def PySem.W.Fast.tw15637292707878309680:Unit:=()
def PySem.W.Fast.tw13948796646171783549:Unit:=()
def PySem.W.Fast.tw12518597581219767160:Unit:=()
def PySem.W.Fast.tw18113683909505132725:Unit:=()
def PySem.W.Fast.tw8163398578373385701:Unit:=()
def PySem.W.Fast.tw11996279250650725912:Unit:=()
def PySem.W.Fast.tw6717074675454862516:Unit:=()
def PySem.W.Fast.tw17349671597769630307:Unit:=()
def PySem.W.Fast.tw14137303396259467317:Unit:=()
def PySem.W.Fast.tw11363389059696883811:Unit:=()
def PySem.W.Fast.tw5938340619890735777:Unit:=()
def PySem.W.Fast.tw5676652700428243941:Unit:=()
def PySem.W.Fast.tw9163325830143745357:Unit:=()
def PySem.W.Fast.tw18372343118281601299:Unit:=()
def PySem.W.Fast.tw5515443964373168098:Unit:=()
def PySem.W.Fast.tw18274648784462139052:Unit:=()
def PySem.W.Fast.tw11222478750676485379:Unit:=()
def PySem.W.Fast.tw14789539241100008911:Unit:=()
def PySem.W.Fast.tw16568636414951066607:Unit:=()
open PySem PySem.W PyProof.Rows
set_option maxRecDepth 100000 in
set_option maxHeartbeats 0 in
theorem PySem.Challenge.cw_dipkin_k59_bounds_and_rows_refused_holds : PySem.Challenge.rw_dipkin_k59_bounds_and_rows_refused.Holds := by
 w_on;o_law;k_head;(case hw=>w_witness2)
 k_fill
 refine K59.walk (l:=PySem.Challenge.rw_dipkin_k59_bounds_and_rows_refused) rfl rfl (λw h Y=>PySem.W.km_in_of Y) (λw h Y=>PySem.W.km_tabs_of Y) ?F
 case F =>
  intro w mg fa h KX G hmg
  refine' K59.all_mk KX G hmg ?Zh3 ?Zh4 ?Zh5 ?Zgg ?ZgQ ?ZgR ?ZgS ?Ze8 ?Zh6 ?Zh7 ?Zh8 ?Zgh ?ZgT ?ZgU ?ZgV ?Ze9 ?ZeD ?ZeE ?ZeF ?Zcr ?ZbN ?ZbO ?ZdF ?ZbP ?ZcK ?ZcL ?ZcM ?Zbr ?ZcN ?ZcO ?ZcP ?ZcQ ?ZcR ?Zbs ?Zfz ?ZfA ?ZfB ?ZdG ?ZdH ?ZdI ?ZdJ ?ZbQ ?Zib ?Zic ?Zid ?Zgj ?Zie ?Zif ?Zig ?Zgk ?ZgW ?ZgX ?ZgY ?Zfa ?Zce ?Zcf ?Zcg ?Zba ?Zfb ?Zfc ?Zg0 ?Zfd ?ZfC ?ZfD ?ZfE ?ZdM ?ZfF ?ZfG ?ZdN ?ZdO ?ZdP ?ZbR ?ZbG ?ZbH ?ZbI ?ZaQ ?Zii ?Zij ?Zik ?Zgm ?ZdQ ?ZdR ?ZdS ?ZbS ?ZfH ?ZfI ?ZfJ ?ZdT ?Zch ?Zci ?Zcj ?Zbb ?ZeI ?ZeJ ?ZeK ?Zcs ?ZeL ?ZeM ?ZeN ?Zct ?ZfK ?ZfL ?ZfM ?ZdU ?ZdV ?ZdW ?ZdX ?ZbT ?ZeO ?ZeP ?ZeQ ?Zcu ?ZdY ?ZdZ ?Zd0 ?ZbU ?ZcS ?ZcT ?ZcU ?Zbt ?Zck ?Zcl ?Zcm ?Zbc ?ZeS ?ZeT ?ZeU ?Zcv ?ZbJ ?ZbK ?ZbL ?ZaR ?Zd1 ?Zd2 ?Zd3 ?ZbV ?ZfN ?ZfO ?ZfP ?Zd4 ?Zqb ?Zqc ?Zqe ?Zqf ?n_DipError ?x_DipError ?d_DipError ?y_DipError ?n_Unlike ?x_Unlike ?d_Unlike ?y_Unlike ?n_Empty ?x_Empty ?d_Empty ?y_Empty ?n_TooMany ?x_TooMany ?d_TooMany ?y_TooMany ?n_NoTree ?x_NoTree ?d_NoTree ?y_NoTree ?n_NoTelling ?x_NoTelling ?d_NoTelling ?y_NoTelling ?n_NoPlace ?x_NoPlace ?d_NoPlace ?y_NoPlace ?n_NoNumber ?x_NoNumber ?d_NoNumber ?y_NoNumber ?n_NoPast ?x_NoPast ?d_NoPast ?y_NoPast ?n_NoText ?x_NoText ?d_NoText ?y_NoText ?n_NoLine ?x_NoLine ?d_NoLine ?y_NoLine ?z1_NoTree ?z2_NoTree ?z3_NoTree ?z4_NoTree ?z5_NoTree ?z6_NoTree ?z7_NoTree ?z8_NoTree ?u_NoTree ?i_NoTree_DipError ?ne_NoTree_DipError ?i_NoTree_Unlike ?ne_NoTree_Unlike ?i_NoTree_Empty ?ne_NoTree_Empty ?i_NoTree_TooMany ?ne_NoTree_TooMany ?i_NoTree_NoTelling ?ne_NoTree_NoTelling ?i_NoTree_NoPlace ?ne_NoTree_NoPlace ?i_NoTree_NoNumber ?ne_NoTree_NoNumber ?i_NoTree_NoPast ?ne_NoTree_NoPast ?i_NoTree_NoText ?ne_NoTree_NoText ?i_NoTree_NoLine ?ne_NoTree_NoLine ?i_NoTree_V ?z1_Unlike ?z2_Unlike ?z3_Unlike ?z4_Unlike ?z5_Unlike ?z6_Unlike ?z7_Unlike ?z8_Unlike ?u_Unlike ?i_Unlike_DipError ?ne_Unlike_DipError ?i_Unlike_Empty ?ne_Unlike_Empty ?i_Unlike_TooMany ?ne_Unlike_TooMany ?i_Unlike_NoTree ?ne_Unlike_NoTree ?i_Unlike_NoTelling ?ne_Unlike_NoTelling ?i_Unlike_NoPlace ?ne_Unlike_NoPlace ?i_Unlike_NoNumber ?ne_Unlike_NoNumber ?i_Unlike_NoPast ?ne_Unlike_NoPast ?i_Unlike_NoText ?ne_Unlike_NoText ?i_Unlike_NoLine ?ne_Unlike_NoLine ?i_Unlike_V ?ty_tuple ?ty_bool ?b_ValueError ?b_abs ?b_all ?b_enumerate ?b_isinstance ?b_len ?b_list ?b_max ?b_min ?b_range ?b_sorted ?b_tuple ?b_zip ?m_MOST_PLACES ?nd
  (case Zh3|Zh4|Zh5|Zgg|ZgQ|ZgR|ZgS|Ze8|Zh6|Zh7|Zh8|Zgh|ZgT|ZgU|ZgV|Ze9|ZeD|ZeE|ZeF|Zcr|ZbN|ZbO|ZdF|ZbP=>k_is)
  (case ZcK=>exact rfl)
  (case ZcL=>k_is)
  (case ZcM=>exact rfl)
  (case Zbr=>kernel_rfl)
  (case ZcN=>kernel_rfl)
  (case ZcO=>decide)
  (case ZcP|ZcQ|ZcR|Zbs|Zfz|ZfA|ZfB|ZdG|ZdH|ZdI|ZdJ|ZbQ|Zib|Zic|Zid|Zgj|Zie|Zif|Zig|Zgk|ZgW|ZgX|ZgY|Zfa|Zce|Zcf|Zcg|Zba|Zfb|Zfc|Zg0|Zfd=>k_is)
  (case ZfC=>exact rfl)
  (case ZfD=>k_is)
  (case ZfE=>exact rfl)
  (case ZdM=>kernel_rfl)
  (case ZfF=>kernel_rfl)
  (case ZfG=>decide)
  (case ZdN|ZdO|ZdP|ZbR|ZbG|ZbH|ZbI|ZaQ|Zii|Zij|Zik|Zgm|ZdQ|ZdR|ZdS|ZbS|ZfH|ZfI|ZfJ|ZdT|Zch|Zci|Zcj|Zbb|ZeI|ZeJ|ZeK|Zcs|ZeL|ZeM|ZeN|Zct|ZfK|ZfL|ZfM|ZdU|ZdV|ZdW|ZdX|ZbT|ZeO|ZeP|ZeQ|Zcu|ZdY|ZdZ|Zd0|ZbU|ZcS|ZcT|ZcU|Zbt|Zck|Zcl|Zcm|Zbc|ZeS|ZeT|ZeU|Zcv|ZbJ|ZbK|ZbL|ZaR|Zd1|Zd2|Zd3|ZbV|ZfN|ZfO|ZfP|Zd4|Zqb|Zqc|Zqe|Zqf|n_DipError=>k_is)
  (case x_DipError=>k_exc)
  (case d_DipError|y_DipError|n_Unlike=>k_is)
  (case x_Unlike=>k_exc)
  (case d_Unlike|y_Unlike|n_Empty=>k_is)
  (case x_Empty=>k_exc)
  (case d_Empty|y_Empty|n_TooMany=>k_is)
  (case x_TooMany=>k_exc)
  (case d_TooMany|y_TooMany|n_NoTree=>k_is)
  (case x_NoTree=>k_exc)
  (case d_NoTree|y_NoTree|n_NoTelling=>k_is)
  (case x_NoTelling=>k_exc)
  (case d_NoTelling|y_NoTelling|n_NoPlace=>k_is)
  (case x_NoPlace=>k_exc)
  (case d_NoPlace|y_NoPlace|n_NoNumber=>k_is)
  (case x_NoNumber=>k_exc)
  (case d_NoNumber|y_NoNumber|n_NoPast=>k_is)
  (case x_NoPast=>k_exc)
  (case d_NoPast|y_NoPast|n_NoText=>k_is)
  (case x_NoText=>k_exc)
  (case d_NoText|y_NoText|n_NoLine=>k_is)
  (case x_NoLine=>k_exc)
  (case d_NoLine|y_NoLine|z1_NoTree|z2_NoTree|z3_NoTree|z4_NoTree|z5_NoTree|z6_NoTree|z7_NoTree|z8_NoTree|u_NoTree|i_NoTree_DipError=>k_is)
  (case ne_NoTree_DipError=>decide)
  (case i_NoTree_Unlike=>k_is)
  (case ne_NoTree_Unlike=>decide)
  (case i_NoTree_Empty=>k_is)
  (case ne_NoTree_Empty=>decide)
  (case i_NoTree_TooMany=>k_is)
  (case ne_NoTree_TooMany=>decide)
  (case i_NoTree_NoTelling=>k_is)
  (case ne_NoTree_NoTelling=>decide)
  (case i_NoTree_NoPlace=>k_is)
  (case ne_NoTree_NoPlace=>decide)
  (case i_NoTree_NoNumber=>k_is)
  (case ne_NoTree_NoNumber=>decide)
  (case i_NoTree_NoPast=>k_is)
  (case ne_NoTree_NoPast=>decide)
  (case i_NoTree_NoText=>k_is)
  (case ne_NoTree_NoText=>decide)
  (case i_NoTree_NoLine=>k_is)
  (case ne_NoTree_NoLine=>decide)
  (case i_NoTree_V|z1_Unlike|z2_Unlike|z3_Unlike|z4_Unlike|z5_Unlike|z6_Unlike|z7_Unlike|z8_Unlike|u_Unlike|i_Unlike_DipError=>k_is)
  (case ne_Unlike_DipError=>decide)
  (case i_Unlike_Empty=>k_is)
  (case ne_Unlike_Empty=>decide)
  (case i_Unlike_TooMany=>k_is)
  (case ne_Unlike_TooMany=>decide)
  (case i_Unlike_NoTree=>k_is)
  (case ne_Unlike_NoTree=>decide)
  (case i_Unlike_NoTelling=>k_is)
  (case ne_Unlike_NoTelling=>decide)
  (case i_Unlike_NoPlace=>k_is)
  (case ne_Unlike_NoPlace=>decide)
  (case i_Unlike_NoNumber=>k_is)
  (case ne_Unlike_NoNumber=>decide)
  (case i_Unlike_NoPast=>k_is)
  (case ne_Unlike_NoPast=>decide)
  (case i_Unlike_NoText=>k_is)
  (case ne_Unlike_NoText=>decide)
  (case i_Unlike_NoLine=>k_is)
  (case ne_Unlike_NoLine=>decide)
  (case i_Unlike_V|ty_tuple|ty_bool|b_ValueError|b_abs|b_all|b_enumerate|b_isinstance|b_len|b_list|b_max|b_min|b_range|b_sorted|b_tuple|b_zip|m_MOST_PLACES=>k_is)
  (case nd=>decide)
