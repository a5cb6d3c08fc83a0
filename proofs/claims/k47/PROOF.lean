import PyProof.Rows.All
import Wide.All
import OpenK.AllK
import Wide.FinOn
import Lean
import PyProof.EqAt
import PyProof.EqKinds
import PyProof.TupleCall
import PyProof.MeetsSeq
import PyProof.NeKinds
import PyProof.TupleOfSeq
import PyProof.ListRange
import PyProof.TupleOfGen
import PyProof.ZipIter
import KE.KRevIter
import PyProof.StrWalks
import PyProof.StrBlock2
import PyProof.MeetsStr
import PyProof.StrCalls2
import PyProof.StrLawsIn
import KE.KIntText
import PyProof.StrLawsTight
import PyProof.StrLawsChain
import PyProof.StrLawsAffix
import PyProof.Rows.StrItems
import PyProof.Rows.ReprOcc
import KE.KDictSum
import PyProof.Rows.SeqMore
import KE.KDictList
import KE.KStateDown
import PyProof.StrBlockI
import PyProof.FactsAll.NoneType_1
import PyProof.FString2
import PySem.Challenge.RW_dipkin_k47_the_longest_told
set_option Elab.async false
set_option linter.all false
set_option maxRecDepth 100000
set_option maxHeartbeats 4000000
set_option genSizeOfSpec false
local macro_rules | `(tactic| omega) => `(tactic| first | lia | omega (config := {}))
section
open PySem PySem.Spec PyProof.Rows
noncomputable abbrev Ya:=@wpAny_bind
noncomputable abbrev Yb:=@if_neg
noncomputable abbrev Yc:=@wpAny_pure
noncomputable abbrev Yd:=@if_pos
noncomputable abbrev Ye:=@Nat.le_refl
noncomputable abbrev Yf:=@List.getElem?_eq_getElem
noncomputable abbrev Yg:=@List.length_map
noncomputable abbrev Yh:=@Heap.lt_size
noncomputable abbrev Yi:=@List.getElem?_eq_some_iff
noncomputable abbrev Yj:=@Nat.le_trans
noncomputable abbrev Yk:=@List.mem_cons
noncomputable abbrev Yl:=@List.size_toArray
noncomputable abbrev Ym:=@Nat.lt_of_lt_of_le
noncomputable abbrev Yn:=@Heap.get?_push_of_some
noncomputable abbrev Yo:=@Option.some.inj
noncomputable abbrev Yp:=@Nat.ne_of_lt
noncomputable abbrev Yq:=@PySem.boot_len
noncomputable abbrev Yr:=@Bool.false_ne_true
noncomputable abbrev Ys:=@Nat.zero_le
noncomputable abbrev Yt:=@Heap.get?_push_size
noncomputable abbrev Yu:=@Nat.lt_irrefl
noncomputable abbrev Yv:=@List.mem_append_right
noncomputable abbrev Yw:=@List.getElem?_map
noncomputable abbrev Yx:=@List.mem_range
noncomputable abbrev Yy:=@List.length_append
noncomputable abbrev Yz:=@List.mem_append
noncomputable abbrev YA:=@Nat.lt_of_le_of_lt
noncomputable abbrev YB:=@List.getD_eq_getElem?_getD
noncomputable abbrev YC:=@List.map_cons
noncomputable abbrev YD:=@List.map_append
noncomputable abbrev YE:=@decide_eq_false
noncomputable abbrev YF:=@decide_eq_true
noncomputable abbrev YG:=@wpAny_mono
noncomputable abbrev YH:=@List.mem_filter
noncomputable abbrev YI:=@List.mem_append_left
noncomputable abbrev YJ:=@List.length_take
noncomputable abbrev YK:=@List.length_cons
noncomputable abbrev YL:=@List.range_succ
noncomputable abbrev YM:=@List.getElem_mem
noncomputable abbrev YN:=@Nat.le_of_lt
noncomputable abbrev YO:=@Nat.lt_succ_of_lt
noncomputable abbrev YQ:=@List.mem_map
noncomputable abbrev YR:=@List.mem_cons_of_mem
noncomputable abbrev YS:=@Array.length_toList
noncomputable abbrev YT:=@List.length_drop
noncomputable abbrev YU:=@List.map_map
noncomputable abbrev YV:=@List.append_assoc
noncomputable abbrev YW:=@List.pairwise_cons
noncomputable abbrev YX:=@List.mem_cons_self
noncomputable abbrev YY:=@List.getElem?_append_right
noncomputable abbrev YZ:=@List.getElem?_append_left
noncomputable abbrev Y0:=@List.mem_singleton
noncomputable abbrev Y1:=@List.length_range
noncomputable abbrev Y2:=@List.getElem_of_mem
noncomputable abbrev Y3:=@List.length_filter_le
noncomputable abbrev Y4:=@Int.toNat_natCast
noncomputable abbrev Y5:=@List.getElem_append_left
noncomputable abbrev Y6:=@List.getElem_append_right
noncomputable abbrev Y7:=@List.take_append_drop
end
namespace L2
open PySem PySem.Spec PyProof.Rows
noncomputable abbrev Key:=Sum Int Str
noncomputable def ZhQ:Key->Value->Bool
 |.inl k,v=>Value.isInt k v
 |.inr x,v=>Value.isStrOf x v
noncomputable def keyH (w:World):Key->Int
 |.inl k=>hashInt k
 |.inr x=>hashStr w x
theorem Z3:∀{k:Key}{v:Value},ZhQ k v=true->(∃i t,k=Sum.inl i/\v=Value.int i t)\/(∃x t,k=Sum.inr x/\v=Value.str x t)
 |.inl i,v,h=>by
  obtain⟨t,e⟩:=Value.isInt_shape (k:=i) (v:=v) h
  exact .inl ⟨i,t,rfl,e⟩
 |.inr x,v,h=>by
  obtain⟨t,e⟩:=Value.isStrOf_shape (x:=x) (v:=v) h
  exact .inr ⟨x,t,rfl,e⟩
theorem ZlE (i:Int) (t:Tok):ZhQ (.inl i) (.int i t)=true:=by simp[ZhQ,Value.isInt]
theorem ZlF (x:Str) (t:Tok):ZhQ (.inr x) (.str x t)=true:=by simp[ZhQ,Value.isStrOf]
theorem key_ll (a b:Int):decide ((Sum.inl a:Key)=Sum.inl b)=(a==b):=by
 by_cases e:a=b
 ·subst e;simp
 ·have h:¬ (Sum.inl a:Key)=Sum.inl b:=λq=>e (Sum.inl.inj q)
  rw[YE h]
  exact(beq_eq_false_iff_ne.mpr e).symm
theorem key_rr (a b:Str):decide ((Sum.inr a:Key)=Sum.inr b)=decide (a=b):=by
 by_cases e:a=b
 ·subst e;simp
 ·have h:¬ (Sum.inr a:Key)=Sum.inr b:=λq=>e (Sum.inr.inj q)
  rw[YE h,YE e]
theorem key_lr (a:Int) (b:Str):decide ((Sum.inl a:Key)=Sum.inr b)=false:=YE (λq=>nomatch q)
theorem key_rl (a:Str) (b:Int):decide ((Sum.inr a:Key)=Sum.inl b)=false:=YE (λq=>nomatch q)
noncomputable def ZaQ (prog:Program) (w:World):PySem.KeyKind prog w Key where
 is:=ZhQ
 hash:=keyH w
 inj:=λv a b ha hb=>by
  rcases Z3 ha with⟨i,t,rfl,rfl⟩|⟨x,t,rfl,rfl⟩
  ·rcases Z3 hb with⟨j,u,rfl,e⟩|⟨y,u,rfl,e⟩
   ·injection e with e1 _;rw[e1]
   ·exact nomatch e
  ·rcases Z3 hb with⟨j,u,rfl,e⟩|⟨y,u,rfl,e⟩
   ·exact nomatch e
   ·injection e with e1 _;rw[e1]
 byValue:=λk v h=>by
  rcases Z3 h with⟨i,t,rfl,rfl⟩|⟨x,t,rfl,rfl⟩<;>rfl
 pyHash:=λhv h=>by
  rcases Z3 hv with⟨i,t,rfl,rfl⟩|⟨x,t,rfl,rfl⟩
  ·exact wpAny_pyHash_int h
  ·exact wpAny_pyHash_str h
 eqBool:=λhu hv h=>by
  rcases Z3 hu with⟨i,t,rfl,rfl⟩|⟨x,t,rfl,rfl⟩
  ·rcases Z3 hv with⟨j,u,rfl,rfl⟩|⟨y,u,rfl,rfl⟩
   ·rw[key_ll]at h;exact wpAny_eqBool_int h
   ·rw[key_lr]at h;exact SeqAt.EqAt.int_str i t y u _ _ _ _ h
  ·rcases Z3 hv with⟨j,u,rfl,rfl⟩|⟨y,u,rfl,rfl⟩
   ·rw[key_rl]at h;exact SeqAt.EqAt.str_int x t j u _ _ _ _ h
   ·rw[key_rr]at h;exact wpAny_eqBool_str h
 «strs»:=λk x t v h=>by
  rcases Z3 h with⟨i,u,rfl,e⟩|⟨y,u,rfl,e⟩
  ·exact nomatch e
  ·injection e with e1 _
   subst e1
   cases v<;>rfl
theorem Zjb (prog:Program) (w:World) (i:Int) (t:Tok):(ZaQ prog w).is (.inl i) (.int i t)=true:=ZlE i t
theorem Zjc (prog:Program) (w:World) (x:Str) (t:Tok):(ZaQ prog w).is (.inr x) (.str x t)=true:=ZlF x t
inductive V where
 |non|bl (b:Bool)|int (i:Int)|str (x:Str)|byt (b:Array UInt8)|flt (b:UInt64)|ref (a:Addr)|ty (n:String)
 deriving DecidableEq
noncomputable def RelV:V->Value->Prop
 |.non,u=>u=Value.none
 |.bl b,u=>u=Value.bool b
 |.int i,u=>∃t,u=Value.int i t
 |.str x,u=>∃t,u=Value.str x t
 |.byt b,u=>∃t,u=Value.bytes b t
 |.flt b,u=>∃t,u=Value.float b t
 |.ref a,u=>u=Value.ref a
 |.ty n,u=>u=Value.type n
noncomputable abbrev Vals:List V->List Value->Prop:=Paired RelV
theorem Vals.length {xs:List V}{us:List Value} (r:Vals xs us):xs.length=us.length:=Paired.length r
theorem Vals.get:∀{xs:List V}{us:List Value}{i:Nat}{x:V},Vals xs us->xs[i]?=some x->∃u,us[i]?=some u/\RelV x u
 |_,_,_,_,.nil,e=>by simp at e
 |_,_,0,_,.cons r _,e=>by simp at e;subst e;exact⟨_,rfl,r⟩
 |_,_,i+1,x,.cons _ t,e=>by
  obtain⟨u,h1,h2⟩:=Vals.get (i:=i) (x:=x) t (by simpa using e)
  exact⟨u,by simpa using h1,h2⟩
theorem Vals.set {x:V}{u:Value} (r:RelV x u):∀{xs:List V}{us:List Value} (i:Nat),Vals xs us->Vals (xs.set i x) (us.set i u)
 |_,_,_,.nil=>.nil
 |_,_,0,.cons _ t=>.cons r t
 |_,_,i+1,.cons q t=>.cons q (Vals.set r i t)
theorem Vals.append:∀{xs ys:List V}{us ws:List Value},Vals xs us->Vals ys ws->Vals (xs++ys) (us++ws)
 |_,_,_,_,.nil,s=>s
 |_,_,_,_,.cons r t,s=>.cons r (Vals.append t s)
theorem Vals.take:∀{xs:List V}{us:List Value} (n:Nat),Vals xs us->Vals (xs.take n) (us.take n)
 |_,_,0,_=>.nil
 |_,_,_+1,.nil=>.nil
 |_,_,n+1,.cons r t=>.cons r (Vals.take n t)
theorem Vals.drop:∀{xs:List V}{us:List Value} (n:Nat),Vals xs us->Vals (xs.drop n) (us.drop n)
 |_,_,0,r=>r
 |_,_,_+1,.nil=>.nil
 |_,_,n+1,.cons _ t=>Vals.drop n t
noncomputable def ZgK:Option V->Option Value->Prop
 |some v,some u=>RelV v u
 |none,none=>True
 |_,_=>False
noncomputable def KV {κ:Type}:List (κ×V)->List (κ×Value)->Prop:=Paired λ(p:κ×V) (q:κ×Value)=>p.1=q.1/\RelV p.2 q.2
noncomputable def kV:Key->V
 |.inl i=>.int i
 |.inr x=>.str x
inductive HO where
 |lst (xs:List V)
 |tup (xs:List V)
 |dK (kvs:List (Key×V))|dT (kvs:List (List Key×V))
 |set (S:Int->Bool) (n:Nat)
 |ins (C dx:Addr) (fs:List (Str×V))
 |own (x:Addr)
 |xd (fs:List (Str×V))
 |met (f x:Addr)
 |rng (lo hi:Int)
 |frz (o:Obj) (u:HO)
 |tbl (ps:Array Value)
 |ext (φ:Heap->Prop)
noncomputable abbrev Hp:=Addr->Option HO
noncomputable def upd (H:Hp) (a:Addr) (o:HO):Hp:=λb=>if b=a then some o else H b
theorem Zc {H:Hp}{a:Addr}{o:HO}:upd H a o a=some o:=by unfold upd;rw[Yd rfl]
theorem Zj {H:Hp}{a b:Addr}{o:HO} (h:b≠a):upd H a o b=H b:=by unfold upd;rw[Yb h]
theorem ne_of {H:Hp}{a b:Addr}{o u:HO} (h:H a=some o) (h':H b=some u) (d:o≠u):a≠b:=by
 intro e;subst e;rw[h]at h';exact d (Yo h')
theorem Zw {H:Hp}{a b:Addr}{o:HO} (h:H a=some o) (h':H b=none):a≠b:=by
 intro e;subst e;rw[h]at h';cases h'
section
variable (P:Program) (w:World)
noncomputable def ZO (H:Hp) (h:Heap) (a:Addr):HO->Prop
 |.lst xs=>xs.length<=sizeLine/\∃(its:List Value) (n:Nat),Vals xs its/\h.get? a=some {cls:=.type "list",data:=.seq its.toArray n}
 |.tup xs=>xs.length<=sizeLine/\∃its:List Value,Vals xs its/\IsTup h a its.toArray
 |.dK kvs=>kvs.length<=sizeLine/\(a==sysModules)=false/\∃vs,KV kvs vs/\h.DictOf (ZaQ P w) a vs
 |.dT kvs=>kvs.length<=sizeLine/\(a==sysModules)=false/\∃xs:List (List Key×Addr×Value),
   Paired (λ(p:List Key×V) (q:List Key×Addr×Value)=>p.1=q.1/\H q.2.1=some (.tup (p.1.map kV))/\RelV p.2 q.2.2) kvs xs /\
   ∃o es ep,h.get? a=some o/\o.ExactDict/\o.data=.dict es ep/\es.toList=xs.map (entryOfKey (tupleKind (ZaQ P w)))/\(xs.map (·.1)).Nodup
 |.set S n=>h.SetOf (intKind P w) a S n
 |.ins C dx fs=>H dx=some (.own a)/\fs.length<=1000/\dx≠a/\h.get? a=some (PySem.W.instObj C dx) /\
   ∃mA,h.Ns1 dx mA/\(∀f,ZgK (fs.lookup f) (mA f))/\PySem.Within mA (fs.map (·.1))
 |.own _=>∃o,h.get? a=some o
 |.xd fs=>∃mA,h.Ns1 a mA/\∀f,ZgK (fs.lookup f) (mA f)
 |.rng lo hi=>∃t u v,h.get? a=some {cls:=.type "range",data:=.fields #[.int lo t,.int hi u,.int 1 v]}
 |.frz o u=>h.get? a=some o/\ZO H h a u
 |.tbl ps=>∃ts:Array Value,h.get? a=some {cls:=.none,data:=.fields ts}/\TriplesOk ts.toList/\∀pos cv,codeAmong pos ts.toList=some cv->∃c oc vs q t t',cv=.ref c/\H c=some (.frz oc (.own a))/\oc.data=.fields vs/\ps[0]?=some (.str q t)/\vs[1]?=some (.str q t')
 |.met f x=>h.get? a=some (PySem.W.methodObj (.ref f) (.ref x))
 |.ext φ=>φ h/\(∃o,h.get? a=some o)/\∀h1 h2:Heap,φ h1->(∀o,h1.get? a=some o->h2.get? a=some o)->φ h2
noncomputable def HOk (H:Hp) (h:Heap):Prop:=∀a o,H a=some o->ZO P w H h a o
end
section
variable {P:Program}{w:World}{H H':Hp}{h h':Heap}{a:Addr}{o:HO}
theorem ZO.lt (x:ZO P w H h a o):a<h.objs.size:=by
 cases o with
 |lst xs=>obtain⟨_,_,_,_,e⟩:=x;exact Yh e
 |tup xs=>obtain⟨_,_,_,p⟩:=x;exact p.lt
 |dK kvs=>obtain⟨_,_,_,_,o,_,_,e,_⟩:=x;exact Yh e
 |dT kvs=>obtain⟨_,_,_,_,o,_,_,e,_⟩:=x;exact Yh e
 |set S n=>obtain⟨o,_,_,_,e,_⟩:=x;exact Yh e
 |ins C dx fs=>obtain⟨_,_,_,e,_⟩:=x;exact Yh e
 |own y=>obtain⟨_,e⟩:=x;exact Yh e
 |xd fs=>obtain⟨_,⟨_,_,_,e,_⟩,_⟩:=x;exact Yh e
 |rng lo hi=>obtain⟨_,_,_,e⟩:=x;exact Yh e
 |frz ob u=>obtain⟨e,_⟩:=x;exact Yh e
 |tbl ps=>obtain⟨_,e,_⟩:=x;exact Yh e
 |met f y=>exact Yh (show h.get? a=some _ from x)
 |ext φ=>obtain⟨_,⟨_,e⟩,_⟩:=x;exact Yh e
theorem Paired.mapP {α β:Type}{F G:α->β->Prop}:∀{l₁:List α}{l₂:List β},Paired F l₁ l₂->(∀a b,F a b->G a b)->Paired G l₁ l₂
 |_,_,.nil,_=>.nil
 |_,_,.cons r t,f=>.cons (f _ _ r) (Paired.mapP t f)
theorem ZO.Zgp (x:ZO P w H h a o) (k:∀b u,(b=a\/H b=some (.own a))->h.get? b=some u->h'.get? b=some u)
  (ho:∀b,H b=some (.own a)->H' b=some (.own a)) (ht:∀b xs,H b=some (.tup xs)->H' b=some (.tup xs)) (hz:∀b o u,H b=some (.frz o u)->H' b=some (.frz o u)):ZO P w H' h' a o:=by
 induction o with
 |lst xs=>obtain⟨z,its,n,r,e⟩:=x;exact⟨z,its,n,r,k _ _ (.inl rfl) e⟩
 |tup xs=>obtain⟨z,its,r,ob,e,c⟩:=x;exact⟨z,its,r,ob,k _ _ (.inl rfl) e,c⟩
 |dK kvs=>obtain⟨z,y,vs,r,ob,es,ep,e,c⟩:=x;exact⟨z,y,vs,r,ob,es,ep,k _ _ (.inl rfl) e,c⟩
 |dT kvs =>
  obtain⟨z,y,xs,r,ob,es,ep,e,c⟩:=x
  exact⟨z,y,xs,Paired.mapP r λp q z=>⟨z.1,ht _ _ z.2.1,z.2.2⟩,ob,es,ep,k _ _ (.inl rfl) e,c⟩
 |set S n=>obtain⟨ob,es,ep,t,e,c⟩:=x;exact⟨ob,es,ep,t,k _ _ (.inl rfl) e,c⟩
 |ins C dx fs =>
  obtain⟨d,z,ne,e,mA,⟨od,es,ep,e2,c⟩,r⟩:=x
  exact⟨ho _ d,z,ne,k _ _ (.inl rfl) e,mA,⟨od,es,ep,k _ _ (.inr d) e2,c⟩,r⟩
 |own y=>obtain⟨ob,e⟩:=x;exact⟨ob,k _ _ (.inl rfl) e⟩
 |xd fs=>obtain⟨mA,⟨od,es,ep,e,c⟩,r⟩:=x;exact⟨mA,⟨od,es,ep,k _ _ (.inl rfl) e,c⟩,r⟩
 |rng lo hi=>obtain⟨t,u,v,e⟩:=x;exact⟨t,u,v,k _ _ (.inl rfl) e⟩
 |frz ob u ih=>obtain⟨e,q⟩:=x;exact⟨k _ _ (.inl rfl) e,ih q⟩
 |tbl ps =>
  obtain⟨ts,e,t3,z⟩:=x
  refine⟨ts,k a _ (.inl rfl) e,t3,λpos cv hc=>?_⟩
  obtain⟨c,oc,vs,q,t,t',e1,e2,r⟩:=z pos cv hc
  exact⟨c,oc,vs,q,t,t',e1,hz _ _ _ e2,r⟩
 |met f y =>
  have e:h.get? a=some (PySem.W.methodObj (.ref f) (.ref y)):=x
  show h'.get? a=some (PySem.W.methodObj (.ref f) (.ref y))
  exact k a _ (.inl rfl) e
 |ext φ=>obtain⟨p,⟨o,e⟩,st⟩:=x;exact⟨st _ _ p λo q=>k _ _ (.inl rfl) q,⟨o,k _ _ (.inl rfl) e⟩,st⟩
theorem HOk.lt (x:HOk P w H h) (e:H a=some o):a<h.objs.size:=(x a o e).lt
theorem HOk.fresh (x:HOk P w H h) (e:h.objs.size<=a):H a=none:=by
 cases q:H a with
 |none=>rfl
 |some u=>exact absurd (Ym (x.lt q) e) (Yu _)
theorem HOk.kept (x:HOk P w H h) (k:∀b u,h.get? b=some u->h'.get? b=some u):HOk P w H h':=λa o e =>
 (x a o e).Zgp (λb u _ q=>k b u q) (λ_ q=>q) (λ_ _ q=>q) λ_ _ _ q=>q
theorem HOk.laid (x:HOk P w H h) (k:∀b u,h.get? b=some u->h'.get? b=some u) (hp:h.objs.size<=a) (new:ZO P w (upd H a o) h' a o):HOk P w (upd H a o) h':=λb u e=>by
 have hn:=x.fresh hp
 by_cases hb:b=a
 ·subst hb;rw[Zc]at e;cases e;exact new
 ·rw[Zj hb]at e
  exact(x b u e).Zgp (λc v _ q=>k c v q) (λc q=>by rw[Zj (Zw q hn)];exact q) (λc xs q=>by rw[Zj (Zw q hn)];exact q) λc o u q=>by rw[Zj (Zw q hn)];exact q
end
noncomputable def Rd (H:Hp) (a:Addr) (u:HO):Prop:=H a=some u\/∃o,H a=some (.frz o u)
theorem Rd.ok {P:Program}{w:World}{H:Hp}{h:Heap}{a:Addr}{u:HO} (r:Rd H a u) (x:HOk P w H h):ZO P w H h a u:=by
 rcases r with r|⟨o,r⟩
 ·exact x a u r
 ·obtain⟨_,q⟩:=x a _ r
  exact q
noncomputable def Mut:Option HO->Prop
 |some (.lst _)=>True
 |some (.dK _)=>True
 |some (.dT _)=>True
 |some (.set _ _)=>True
 |some (.ins _ _ _)=>True
 |some (.ext _)=>True
 |_=>False
section
variable {P:Program}{w:World}{H:Hp}{h h':Heap}{x e:Addr}{o':HO}
theorem HOk.write (ok:HOk P w H h) (mu:Mut (H x)) (he:e=x\/H e=some (.own x)) (k:∀b u,b≠e->h.get? b=some u->h'.get? b=some u) (heo:∃u,h'.get? e=some u)
  (new:ZO P w (upd H x o') h' x o'):HOk P w (upd H x o') h':=λb u q=>by
 have nown:∀c y,H c=some (.own y)->c≠x:=λc y r z=>by subst z;rw[r]at mu;exact mu
 have ntup:∀c xs,H c=some (.tup xs)->c≠x:=λc xs r z=>by subst z;rw[r]at mu;exact mu
 have nfrz:∀c o u,H c=some (.frz o u)->c≠x:=λc o u r z=>by subst z;rw[r]at mu;exact mu
 by_cases hb:b=x
 ·subst hb;rw[Zc]at q;cases q;exact new
 ·rw[Zj hb]at q
  by_cases hbe:b=e
  ·have q':H b=some (.own x):=by
    rcases he with z|z
    ·exact absurd (hbe.trans z) hb
    ·rw[hbe];exact z
   rw[q]at q';cases q'
   obtain⟨v,hv⟩:=heo
   exact⟨v,by rw[hbe];exact hv⟩
  ·refine(ok b u q).Zgp (λc v hc r=>k c v ?_ r) (λc r=>by rw[Zj (nown c b r)];exact r) (λc xs r=>by rw[Zj (ntup c xs r)];exact r) λc o u r=>by rw[Zj (nfrz c o u r)];exact r
   rcases hc with rfl|hc
   ·exact hbe
   ·rintro rfl
    rcases he with z|z
    ·exact nown c b hc z
    ·rw[hc]at z;cases z;exact hb rfl
end
structure Un (fs ex:List Addr) (H H':Hp) (h h':Heap):Prop where
 keep:∀b o,h.get? b=some o->H b=none->b∉fs->b∉ex->h'.get? b=some o
 slot:∀b o,h.get? b=some o->H b=none->b∈fs->b∉ex->∃sl,h'.get? b=some {o with slots:=sl}
 free:∀b o,h.get? b=some o->H b=none->b∉ex->H' b=none
 there:∀b o,h.get? b=some o->b∉ex->∃o',h'.get? b=some o'
 tups:∀b xs,H b=some (.tup xs)->H' b=some (.tup xs)
 frzs:∀b o u,H b=some (.frz o u)->H' b=some (.frz o u)
 tbls:∀b ps,H b=some (.tbl ps)->∃more,H' b=some (.tbl (ps++more))
section
variable {fs fs' ex ex':List Addr}{H H1 H2:Hp}{h h1 h2 h':Heap}{a x e:Addr}{o:HO}
theorem Un.any (u:Un fs ex H H1 h h1) {b:Addr}{ob:Obj} (q:h.get? b=some ob) (n:H b=none) (hx:b∉ex):∃sl,h1.get? b=some {ob with slots:=sl}:=by
 by_cases hb:b∈fs
 ·exact u.slot b ob q n hb hx
 ·exact⟨ob.slots,u.keep b ob q n hb hx⟩
theorem Un.kept (k:∀b u,h.get? b=some u->h'.get? b=some u):Un fs ex H H h h' :=
 ⟨λb ob q _ _ _=>k b ob q,λb ob q _ _ _=>⟨ob.slots,k b ob q⟩,λ_ _ _ n _=>n,λb ob q _=>⟨ob,k b ob q⟩,λ_ _ q=>q,λ_ _ _ q=>q,λ_ ps q=>⟨#[],by rw[q];simp⟩⟩
theorem Un.refl:Un fs ex H H h h:=Un.kept λ_ _ q=>q
theorem Un.laid (k:∀b u,h.get? b=some u->h'.get? b=some u) (hp:h.objs.size<=a) (hn:H a=none):Un fs ex H (upd H a o) h h' where
 keep:=λb u q _ _ _=>k b u q
 slot:=λb u q _ _ _=>⟨u.slots,k b u q⟩
 free:=λb u q n _=>by rw[Zj (Yp (Ym (Yh q) hp))];exact n
 there:=λb u q _=>⟨u,k b u q⟩
 tups:=λb xs q=>by rw[Zj (Zw q hn)];exact q
 frzs:=λb u xs q=>by rw[Zj (Zw q hn)];exact q
 tbls:=λb ps q=>⟨#[],by rw[Zj (Zw q hn),q];simp⟩
theorem Un.write (mu:Mut (H x)) (he:e=x\/H e=some (.own x)) (k:∀b u,b≠e->h.get? b=some u->h'.get? b=some u) (heo:∃u,h'.get? e=some u):Un fs ex H (upd H x o) h h':=by
 have hx:∀b,H b=none->b≠x:=λb n z=>by subst z;rw[n]at mu;exact mu
 have hb:∀b,H b=none->b≠e:=λb n z=>by
  subst z
  rcases he with r|r
  ·exact hx b n r
  ·rw[n]at r;cases r
 have hm:∀b u,H b=some u->¬ Mut (some u)->b≠x:=λb u q nm z=>by subst z;rw[q]at mu;exact nm mu
 refine⟨λb u q n _ _=>k b u (hb b n) q,λb u q n _ _=>⟨u.slots,k b u (hb b n) q⟩,λb u q n _=>by rw[Zj (hx b n)];exact n,λb u q _=>?_,
  λb xs q=>by rw[Zj (hm b _ q λz=>z)];exact q,λb u xs q=>by rw[Zj (hm b _ q λz=>z)];exact q,λb ps q=>⟨#[],by rw[Zj (hm b _ q λz=>z),q];simp⟩⟩
 by_cases hbe:b=e
 ·subst hbe;exact heo
 ·exact⟨u,k b u hbe q⟩
end
noncomputable def trk (h:Heap) (H:Hp):List Addr:=(List.range h.objs.size).filter λa=>(H a).isSome
noncomputable def Zhx (h:Heap) (H:Hp):Heap:=PySem.W.hideAll h (trk h H)
theorem ZlG (h:Heap) (H:Hp):(Zhx h H).objs.size=h.objs.size:=PySem.W.hideAll_size _ _
theorem Zny {h:Heap}{H:Hp}{b:Addr}{o:Obj} (e:h.get? b=some o) (n:H b=none):(Zhx h H).get? b=some o :=
 PySem.W.hideAll_get _ e λhm=>by
  have q:(H b).isSome=true:=(YH.mp hm).2
  rw[n]at q;simp at q
theorem Zpo {h:Heap}{H:Hp}{b:Addr}{o:Obj} (e:(Zhx h H).get? b=some o):h.get? b=some o/\H b=none:=by
 have e':h.get? b=some o:=PySem.W.of_hideAll (trk h H) e
 refine⟨e',?_⟩
 cases q:H b with
 |none=>rfl
 |some x =>
  have hm:b∈trk h H:=YH.mpr ⟨Yx.mpr (Yh e'),by simp[q]⟩
  have z:(Zhx h H).get? b=none:=PySem.W.hideAll_none (trk h H) hm
  rw[z]at e;cases e
noncomputable def Zpp (g h:Heap) (L:Addr):List (Addr×Obj):=(List.range h.objs.size).filterMap λa=>if a=L\/(g.get? a).isSome=true then none else (h.get? a).map λo=>(a,o)
noncomputable def rest (g h:Heap) (L d:Addr):List (Addr×Obj):=(Zpp g h L).filter λp=>decide (p.1≠d)
structure Mod (K:PySem.W.Frag) (mg:Str->Option Value) (base:Heap):Prop where
 kin:K.In base
 glob:base.Ns mainGlobals mg
 blt:∃mb,base.Ns builtinsNs mb/\∀x:Str,x≠"__name__"->mb x=bootBuiltins x
 nolimit:base.NoLimit
structure Cx where
 prog:Program
 w:World
 K:PySem.W.Frag
 mg:Str->Option Value
 base:Heap
 A:Around
 N:List Str
 s₀:Shared
 H₀:Hp
 env:Env
 outer:List Env
 stack:List Env
 ex:List Addr
 fn:Str->Bool
 calm:Bool
 pn:List (Addr×Obj)
 xe:Value->Shared->Prop
noncomputable def frs (l:List Env):List Addr:=l.filterMap (·.frame)
noncomputable abbrev Cx.fs (X:Cx):List Addr:=frs X.outer
noncomputable def Vis (sc:Scope) (x:Str):Prop:=sc.names.lookup x=some .local\/sc.names.lookup x=some .cell\/sc.names.lookup x=some .free
noncomputable def Loc (sc:Scope) (x:Str):Prop:=sc.names.lookup x=some .local\/sc.names.lookup x=some .cell
noncomputable def Look (env:Env) (h:Heap) (m:Str->Option Value) (x:Str) (u:Value):Prop :=
 (env.kindOf x=some .local/\m x=some u)\/((env.kindOf x=some .cell\/env.kindOf x=some .free)/\∃c,env.cells.lookup x=some c/\h.IsCell c (some u))
structure Cx.Ok (X:Cx):Prop where
 mod:Mod X.K X.mg X.base
 kind:X.env.scope.kind=.function
 glob:X.env.globals=mainGlobals
 blt:X.env.builtins=builtinsNs
 above:X.s₀.heap.objs.size<=X.env.locals
 inj:∀x y c,X.env.cells.lookup x=some c->X.env.cells.lookup y=some c->x=y
 has:∀x,(X.env.kindOf x=some .cell\/X.env.kindOf x=some .free)->∃c,X.env.cells.lookup x=some c
 cab:∀x c,X.fn x=true->X.env.cells.lookup x=some c->X.s₀.heap.objs.size<=c
 hd:X.calm=true->X.A.handled=none
 frames:X.A.frames=some X.stack
 stk:X.stack=X.outer\/(X.stack=X.env::X.outer/\X.env.frame=some X.env.locals)
 exf:∀b∈X.ex,b≠X.env.locals/\∀x c,X.env.cells.lookup x=some c->c≠b
 bs:∀b o,X.base.get? b=some o->X.s₀.heap.get? b=some o/\X.H₀ b=none
 bsz:X.base.objs.size<=X.s₀.heap.objs.size
 noex:∀b o,X.base.get? b=some o->b∉X.ex
 exfs:∀b∈X.ex,b∉X.fs
 funs:X.s₀.heap.FunFrames X.base X.outer
 frf:∀b∈X.fs,X.H₀ b=none
structure Inv (X:Cx) (pins:List (Addr×Obj)) (σ:List (Option V)) (H:Hp) (s:Shared):Prop where
 ok:X.Ok
 os:s.os=X.s₀.os
 bare:AllBare s.gens
 base:Un X.fs X.ex X.H₀ H X.s₀.heap s.heap
 loc:∃m,s.heap.Ns X.env.locals m/\∀(i:Nat) (x:Str) (v:V),X.N[i]?=some x->σ[i]?=some (some v)->Vis X.env.scope x->∃u,RelV v u/\Look X.env s.heap m x u
 cell:∀x c,X.env.cells.lookup x=some c->∃v,s.heap.IsCell c v
 free:H X.env.locals=none
 freeC:∀x c,X.env.cells.lookup x=some c->H c=none
 pin:∀p∈X.pn++pins,s.heap.get? p.1=some p.2/\H p.1=none/\p.1≠X.env.locals/\p.1∉X.fs/\∀v,p.2.data≠.cell v
 hok:HOk X.prog X.w H s.heap
 len:σ.length=X.N.length
section
variable {X:Cx}{pins:List (Addr×Obj)}{σ:List (Option V)}{H H':Hp}{s:Shared}{h':Heap}
theorem Cx.Ok.nofr (ok:X.Ok) {b:Addr}{o:Obj} (e:X.base.get? b=some o):b∉X.fs:=λhb=>by
 have:=(ok.funs.mem hb).1
 rw[e]at this;cases this
theorem Inv.bs (I:Inv X pins σ H s):∀b o,X.base.get? b=some o->s.heap.get? b=some o/\H b=none:=λb o e =>
 ⟨I.base.keep b o (I.ok.bs b o e).1 (I.ok.bs b o e).2 (I.ok.nofr e) (I.ok.noex b o e),I.base.free b o (I.ok.bs b o e).1 (I.ok.bs b o e).2 (I.ok.noex b o e)⟩
theorem Inv.bk (I:Inv X pins σ H s):∀b o,X.base.get? b=some o->s.heap.get? b=some o:=λb o e=>(I.bs b o e).1
theorem Inv.mod (I:Inv X pins σ H s):Mod X.K X.mg X.base:=I.ok.mod
theorem Inv.kIn (I:Inv X pins σ H s):X.K.In s.heap:=I.ok.mod.kin.keeps I.bk
theorem Inv.lt (I:Inv X pins σ H s):X.env.locals<s.heap.objs.size:=let ⟨_,hn,_⟩:=I.loc;hn.lt
theorem Inv.sz (I:Inv X pins σ H s):X.s₀.heap.objs.size<=s.heap.objs.size:=Yj I.ok.above (YN I.lt)
theorem Inv.nofs (I:Inv X pins σ H s) {a:Addr} (h:s.heap.objs.size<=a):a∉X.fs:=λhb=>by
 obtain⟨_,o,ho,_⟩:=I.ok.funs.mem hb
 exact absurd (Ym (Yh ho) (Yj I.sz h)) (Yu _)
theorem Inv.cne (I:Inv X pins σ H s):∀x c,X.env.cells.lookup x=some c->c≠X.env.locals:=λx c e z=>by
 obtain⟨v,o,ho,hd⟩:=I.cell x c e
 obtain⟨m,⟨o',es,ep,ho',hd',_⟩,_⟩:=I.loc
 rw[z,ho']at ho;cases ho;rw[hd']at hd;cases hd
theorem Inv.funs (I:Inv X pins σ H s):s.heap.FunFrames X.base X.outer:=by
 have all:∀(l:List Env),(∀b∈frs l,b∈X.fs)->X.s₀.heap.FunFrames X.base l->s.heap.FunFrames X.base l:=by
  intro l
  induction l with
  |nil=>intro _ _;trivial
  |cons env r ih =>
   intro hs hl
   obtain⟨hk,⟨L,o,hf,hn,ho,hd⟩,hr⟩:=hl
   have hL:L∈X.fs:=hs L (by unfold frs;rw[List.filterMap_cons,hf];exact YX)
   obtain⟨sl,e⟩:=I.base.slot L o ho (I.ok.frf L hL) hL λz=>I.ok.exfs L z hL
   exact⟨hk,⟨L,_,hf,hn,e,hd⟩,ih (λb hb=>hs b (by unfold frs;rw[List.filterMap_cons,hf];exact YR _ hb)) hr⟩
 exact all X.outer (λ_ hb=>hb) I.ok.funs
theorem Inv.stack (I:Inv X pins σ H s):s.heap.FunFrames X.base X.stack:=by
 rcases I.ok.stk with e|⟨e,hf⟩
 ·rw[e];exact I.funs
 ·rw[e]
  obtain⟨m,hn,_⟩:=I.loc
  refine .cons (by rw[I.ok.kind];decide) hf hn ?_ I.funs
  exact Heap.get?_none_of_le (Yj I.ok.bsz I.ok.above)
theorem Inv.ZeS (I:Inv X pins σ H s):∀b∈frs X.stack,b∈X.env.locals::X.fs:=λb hb=>by
 rcases I.ok.stk with e|⟨e,hf⟩
 ·rw[e]at hb;exact YR _ hb
 ·rw[e]at hb
  unfold frs at hb
  rw[List.filterMap_cons,hf]at hb
  exact hb
theorem Inv.Ziq (I:Inv X pins σ H s):∀b∈frs X.stack,H b=none:=λb hb=>by
 rcases Yk.mp (I.ZeS b hb)with e|hb
 ·rw[e];exact I.free
 ·obtain⟨_,o,ho,_⟩:=I.ok.funs.mem hb
  exact I.base.free b o ho (I.ok.frf b hb) λz=>I.ok.exfs b z hb
theorem Inv.step {g':Array GenState}{t':Nat}{d':Drawn}{ch:List Addr} (I:Inv X pins σ H s)
  (hch:∀b∈ch,(b∈X.ex\/X.s₀.heap.objs.size<=b)/\b≠X.env.locals/\(∀x c,X.env.cells.lookup x=some c->c≠b)/\∀p∈X.pn++pins,p.1≠b)
  (keep:∀b o,b≠X.env.locals->b∉X.fs->b∉ch->s.heap.get? b=some o->H b=none->h'.get? b=some o)
  (slot:∀b o,b≠X.env.locals->b∈X.fs->b∉ch->s.heap.get? b=some o->H b=none->∃sl,h'.get? b=some {o with slots:=sl}) (free:∀b o,b∉ch->s.heap.get? b=some o->H b=none->H' b=none)
  (there:∀b o,b∉ch->s.heap.get? b=some o->∃o',h'.get? b=some o')
  (tups:∀b xs,H b=some (.tup xs)->H' b=some (.tup xs)) (frzs:∀b o u,H b=some (.frz o u)->H' b=some (.frz o u)) (tbls:∀b ps,H b=some (.tbl ps)->∃more,H' b=some (.tbl (ps++more)))
  (ns:∀m,s.heap.Ns X.env.locals m->h'.Ns X.env.locals m) (hok:HOk X.prog X.w H' h') (hg:AllBare g') :
  Inv X pins σ H' {s with heap:=h',gens:=g',drawn:=d',toks:=t'}:=by
 have neL:∀b o,X.s₀.heap.get? b=some o->b≠X.env.locals:=λb o e=>Yp (Ym (Yh e) I.ok.above)
 have neC:∀b o,X.s₀.heap.get? b=some o->b∉X.ex->b∉ch:=λb o e hx hb=>by
  rcases(hch b hb).1 with z|z
  ·exact hx z
  ·exact absurd (Ym (Yh e) z) (Yu _)
 have cellK:∀x c,X.env.cells.lookup x=some c->∀v,s.heap.IsCell c v->h'.IsCell c v:=λx c e v ⟨o,ho,hd⟩=>by
  have nch:c∉ch:=λz=>(hch c z).2.2.1 x c e rfl
  by_cases hc:c∈X.fs
  ·obtain⟨sl,q⟩:=slot c o (I.cne x c e) hc nch ho (I.freeC x c e)
   exact⟨_,q,hd⟩
  ·exact⟨o,keep c o (I.cne x c e) hc nch ho (I.freeC x c e),hd⟩
 refine⟨I.ok,I.os,hg,⟨λb o e n hb hx=>?_,λb o e n hb hx=>?_,λb o e n hx=>?_,λb o e hx=>?_,λb xs e=>tups b xs (I.base.tups b xs e),λb o xs e=>frzs b o xs (I.base.frzs b o xs e),λb ps e=>?_⟩,?_,λx c e=>?_,?_,λx c e=>?_,λp hp=>?_,hok,I.len⟩
 ·exact keep b o (neL b o e) hb (neC b o e hx) (I.base.keep b o e n hb hx) (I.base.free b o e n hx)
 ·obtain⟨sl,e1⟩:=I.base.slot b o e n hb hx
  obtain⟨sl',e2⟩:=slot b _ (neL b o e) hb (neC b o e hx) e1 (I.base.free b o e n hx)
  exact⟨sl',e2⟩
 ·obtain⟨o',e1⟩:=I.base.there b o e hx
  exact free b o' (neC b o e hx) e1 (I.base.free b o e n hx)
 ·obtain⟨o',e1⟩:=I.base.there b o e hx
  exact there b o' (neC b o e hx) e1
 ·obtain⟨m1,e1⟩:=I.base.tbls b ps e
  obtain⟨m2,e2⟩:=tbls b _ e1
  exact⟨m1++m2,by rw[e2,Array.append_assoc]⟩
 ·obtain⟨m,hn,hl⟩:=I.loc
  refine⟨m,ns m hn,λi x v e1 e2 e3=>?_⟩
  obtain⟨u,r,l⟩:=hl i x v e1 e2 e3
  refine⟨u,r,?_⟩
  rcases l with l|⟨k,c,e,z⟩
  ·exact .inl l
  ·exact .inr ⟨k,c,e,cellK x c e _ z⟩
 ·obtain⟨v,z⟩:=I.cell x c e
  exact⟨v,cellK x c e v z⟩
 ·obtain⟨m,⟨o,_,_,ho,_⟩,_⟩:=I.loc
  exact free _ o (λz=>(hch _ z).2.1 rfl) ho I.free
 ·obtain⟨v,o,ho,hd⟩:=I.cell x c e
  exact free c o (λz=>(hch c z).2.2.1 x c e rfl) ho (I.freeC x c e)
 ·obtain⟨e,n,ne,nf,d⟩:=I.pin p hp
  have nch:p.1∉ch:=λz=>(hch p.1 z).2.2.2 p hp rfl
  exact⟨keep p.1 p.2 ne nf nch e n,free p.1 p.2 nch e n,ne,nf,d⟩
theorem Inv.un {t':Nat} (I:Inv X pins σ H s) (u:Un X.fs [] H H' s.heap h') (hok:HOk X.prog X.w H' h'):Inv X pins σ H' {s with heap:=h',toks:=t'}:=by
 obtain⟨m,⟨o,es,ep,ho,r⟩,_⟩:=id I.loc
 obtain⟨sl,hL⟩:=u.any ho I.free (by simp)
 exact I.step (g':=s.gens) (d':=s.drawn) (ch:=[]) (λ_ z=>nomatch z) (λb o _ hb _ e n=>u.keep b o e n hb (by simp)) (λb o _ hb _ e n=>u.slot b o e n hb (by simp)) (λb o _ e n=>u.free b o e n (by simp)) (λb o _ e=>u.there b o e (by simp)) u.tups u.frzs u.tbls (λm' hm=>by
  obtain⟨o',es',ep',ho',r'⟩:=hm
  rw[ho]at ho';cases ho'
  exact⟨_,es',ep',hL,r'⟩) hok I.bare
theorem Inv.call {g':Array GenState}{t':Nat}{d':Drawn}{ch:List Addr} (I:Inv X pins σ H s) (u:Un (frs X.stack) ch H H' s.heap h') (hok:HOk X.prog X.w H' h') (hg:AllBare g')
  (hch:∀b∈ch,(b∈X.ex\/X.s₀.heap.objs.size<=b)/\b≠X.env.locals/\(∀x c,X.env.cells.lookup x=some c->c≠b)/\∀p∈X.pn++pins,p.1≠b) :
  Inv X pins σ H' {s with heap:=h',gens:=g',drawn:=d',toks:=t'}:=by
 obtain⟨m,⟨o,es,ep,ho,r⟩,_⟩:=id I.loc
 obtain⟨sl,hL⟩:=u.any ho I.free λz=>(hch _ z).2.1 rfl
 exact I.step (ch:=ch) hch (λb o hL hb hc e n=>u.keep b o e n (λz=>(Yk.mp (I.ZeS b z)).elim hL hb) hc) (λb o _ _ hc e n=>u.any e n hc) (λb o hc e n=>u.free b o e n hc) (λb o hc e=>u.there b o e hc) u.tups u.frzs u.tbls (λm' hm=>by
  obtain⟨o',es',ep',ho',r'⟩:=hm
  rw[ho]at ho';cases ho'
  exact⟨_,es',ep',hL,r'⟩) hok hg
theorem Inv.turned {t':Nat}{it:Addr} (I:Inv X pins σ H s) (k:∀b o,b≠it->s.heap.get? b=some o->h'.get? b=some o) (hn:H it=none) (hL:it≠X.env.locals)
  (h1:it∈X.ex\/X.s₀.heap.objs.size<=it) (h2:∀x c,X.env.cells.lookup x=some c->c≠it) (h3:∀p∈X.pn++pins,p.1≠it):Inv X pins σ H {s with heap:=h',toks:=t'}:=by
 have nit:∀b u,H b=some u->b≠it:=λb u e z=>by rw[z,hn]at e;cases e
 refine I.step (g':=s.gens) (d':=s.drawn) (ch:=[it]) (λb hb=>?_) (λb o _ _ hc e _=>k b o (λz=>hc (by simp[z])) e) (λb o _ _ hc e _=>⟨o.slots,k b o (λz=>hc (by simp[z])) e⟩) (λ_ _ _ _ n=>n)
  (λb o hc e=>⟨o,k b o (λz=>hc (by simp[z])) e⟩) (λ_ _ e=>e) (λ_ _ _ e=>e) (λb ps e=>⟨#[],by rw[e];simp⟩) (λm hm=>?_) (λb u e=>?_) I.bare
 ·have e:b=it:=by simpa using hb
  subst e
  exact⟨h1,hL,h2,h3⟩
 ·obtain⟨o,es,ep,ho,r⟩:=hm
  exact⟨o,es,ep,k _ o (Ne.symm hL) ho,r⟩
 ·refine(I.hok b u e).Zgp (λc v hc q=>k c v ?_ q) (λ_ q=>q) (λ_ _ q=>q) λ_ _ _ q=>q
  rcases hc with z|z
  ·rw[z];exact nit b u e
  ·exact nit c _ z
theorem Inv.tok (I:Inv X pins σ H s) (t:Nat):Inv X pins σ H {s with toks:=t}:=I.un (h':=s.heap) (t':=t) Un.refl I.hok
theorem Inv.kept {t':Nat} (I:Inv X pins σ H s) (k:∀b u,s.heap.get? b=some u->h'.get? b=some u):Inv X pins σ H {s with heap:=h',toks:=t'}:=I.un (Un.kept k) (I.hok.kept k)
theorem Inv.laid {a:Addr}{o:HO}{t':Nat} (I:Inv X pins σ H s) (k:∀b u,s.heap.get? b=some u->h'.get? b=some u) (hp:s.heap.objs.size<=a) (new:ZO X.prog X.w (upd H a o) h' a o) :
  Inv X pins σ (upd H a o) {s with heap:=h',toks:=t'}:=I.un (Un.laid k hp (I.hok.fresh hp)) (I.hok.laid k hp new)
theorem Inv.write {x e:Addr}{o:HO}{t':Nat} (I:Inv X pins σ H s) (mu:Mut (H x)) (he:e=x\/H e=some (.own x)) (k:∀b u,b≠e->s.heap.get? b=some u->h'.get? b=some u) (heo:∃u,h'.get? e=some u)
  (new:ZO X.prog X.w (upd H x o) h' x o):Inv X pins σ (upd H x o) {s with heap:=h',toks:=t'}:=I.un (Un.write mu he k heo) (I.hok.write mu he k heo new)
theorem Inv.weak {σ':List (Option V)} (I:Inv X pins σ H s) (hl:σ'.length=σ.length) (w:∀(i:Nat) v,σ'[i]?=some (some v)->σ[i]?=some (some v)):Inv X pins σ' H s :=
 ⟨I.ok,I.os,I.bare,I.base,let ⟨m,hn,hl'⟩:=I.loc;⟨m,hn,λi x v e1 e2 e3=>hl' i x v e1 (w i v e2) e3⟩,I.cell,I.free,I.freeC,I.pin,I.hok,hl.trans I.len⟩
theorem Inv.Zff {pins':List (Addr×Obj)} (I:Inv X pins σ H s) (h:∀p∈pins',s.heap.get? p.1=some p.2/\H p.1=none/\p.1≠X.env.locals/\p.1∉X.fs/\∀v,p.2.data≠.cell v):Inv X pins' σ H s :=
 ⟨I.ok,I.os,I.bare,I.base,I.loc,I.cell,I.free,I.freeC,λp hp=>(Yz.mp hp).elim (λz=>I.pin p (YI _ z)) (h p),I.hok,I.len⟩
theorem Zjd {N:List Str} (hN:N.Nodup) {i j:Nat}{x:Str} (a:N[i]?=some x) (b:N[j]?=some x):i=j:=by
 obtain⟨h1,e1⟩:=Yi.mp a
 obtain⟨h2,e2⟩:=Yi.mp b
 exact(List.getElem_inj hN).mp (e1.trans e2.symm)
theorem ZlH {M:Model}{A:Around}{E:Value->Shared->Prop}{i:Nat}{x:Str}{v:V}{u:Value}{Q:Unit->Shared->Prop} (I:Inv X pins σ H s) (hN:X.N.Nodup) (hi:X.N[i]?=some x) (hx:Loc X.env.scope x) (r:RelV v u)
  (h:∀s',Inv X pins (σ.set i (some v)) H s'->(∃a,Heap.SameBut a s.heap s'.heap/\(a=X.env.locals\/X.env.cells.lookup x=some a))->Q () s') (hf:X.fn x=true\/X.env.scope.names.lookup x=some .local:=by first|exact .inl rfl|exact .inr rfl|assumption):wpAny M A (storeName X.env x u) Q E s:=by
 obtain⟨m,hn,hl⟩:=id I.loc
 have hcls:(X.env.scope.kind==.class||(X.env.scope.kind==.module&&X.env.locals != X.env.globals))=false:=by rw[I.ok.kind];rfl
 have hiσ:i < σ.length:=by rw[I.len];exact(Yi.mp hi).1
 have cne:=I.cne
 have tracked:∀{a:Addr}{h':Heap},(∃o,s.heap.get? a=some o/\H a=none)->Heap.SameBut a s.heap h'->HOk X.prog X.w H h':=λ{a h'} ha hs b ob e=>by
  obtain⟨_,_,hfree⟩:=ha
  refine(I.hok b ob e).Zgp (λc w' hc q=>(hs.2 c ?_).trans q) (λ_ q=>q) (λ_ _ q=>q) λ_ _ _ q=>q
  rintro rfl
  rcases hc with rfl|hc
  ·rw[hfree]at e;cases e
  ·rw[hfree]at hc;cases hc
 rcases hx with hk|hk
 ·refine wpAny_storeName_local hk hn (λh' hn' hs=>?_) hcls
  obtain⟨oL,_,_,hoL,_⟩:=id hn
  refine h _ ⟨I.ok,I.os,I.bare,⟨λb o e n hb hx=>?_,λb o e n hb hx=>?_,I.base.free,λb o e hx=>?_,I.base.tups,I.base.frzs,I.base.tbls⟩,⟨_,hn',λj y v' e1 e2 e3=>?_⟩,λy c e=>?_,I.free,I.freeC,λp hp=>?_,tracked ⟨oL,hoL,I.free⟩ hs,by simpa using I.len⟩ ⟨_,hs,.inl rfl⟩
  ·exact(hs.2 b (Yp (Ym (Yh e) I.ok.above))).trans (I.base.keep b o e n hb hx)
  ·obtain⟨sl,e1⟩:=I.base.slot b o e n hb hx
   exact⟨sl,(hs.2 b (Yp (Ym (Yh e) I.ok.above))).trans e1⟩
  ·obtain⟨o',e1⟩:=I.base.there b o e hx
   exact⟨o',(hs.2 b (Yp (Ym (Yh e) I.ok.above))).trans e1⟩
  ·by_cases hj:j=i
   ·subst hj
    rw[hi]at e1;cases e1
    rw[List.getElem?_set_self hiσ]at e2
    cases e2
    exact⟨u,r,.inl ⟨hk,by simp⟩⟩
   ·rw[List.getElem?_set_ne (Ne.symm hj)]at e2
    obtain⟨u',r',q⟩:=hl j y v' e1 e2 e3
    refine⟨u',r',?_⟩
    rcases q with⟨k,e⟩|⟨k,c,e,z⟩
    ·refine .inl ⟨k,?_⟩
     have:y≠x:=λe=>hj (Zjd hN e1 (e▸hi))
     simp[this,e]
    ·exact .inr ⟨k,c,e,z.sameBut hs (cne y c e)⟩
  ·obtain⟨w',z⟩:=I.cell y c e
   exact⟨w',z.sameBut hs (cne y c e)⟩
  ·obtain⟨e,n,ne,nf,d⟩:=I.pin p hp
   exact⟨(hs.2 p.1 ne).trans e,n,ne,nf,d⟩
 ·have hfn:X.fn x=true:=by
   rcases hf with z|z
   ·exact z
   ·rw[z]at hk;cases hk
  obtain⟨c,hc⟩:=I.ok.has x (.inl hk)
  obtain⟨w',z⟩:=I.cell x c hc
  refine wpAny_storeName_cell I.ok.kind hk hc z (λh' hc' hs=>?_)
  obtain⟨oc,hoc,hocd⟩:=id z
  refine h {s with heap:=h'} ⟨I.ok,I.os,I.bare,⟨λb o e n hb hx=>?_,λb o e n hb hx=>?_,I.base.free,λb o e hx=>?_,I.base.tups,I.base.frzs,I.base.tbls⟩,⟨m,hn.sameBut hs (Ne.symm (cne x c hc)),λj y v' e1 e2 e3=>?_⟩,λy c' e=>?_,I.free,I.freeC,λp hp=>?_,tracked ⟨oc,hoc,I.freeC x c hc⟩ hs,by simpa using I.len⟩ ⟨c,hs,.inr hc⟩
  ·exact(hs.2 b (Yp (Ym (Yh e) (I.ok.cab x c hfn hc)))).trans (I.base.keep b o e n hb hx)
  ·obtain⟨sl,e1⟩:=I.base.slot b o e n hb hx
   exact⟨sl,(hs.2 b (Yp (Ym (Yh e) (I.ok.cab x c hfn hc)))).trans e1⟩
  ·obtain⟨o',e1⟩:=I.base.there b o e hx
   exact⟨o',(hs.2 b (Yp (Ym (Yh e) (I.ok.cab x c hfn hc)))).trans e1⟩
  ·by_cases hj:j=i
   ·subst hj
    rw[hi]at e1;cases e1
    rw[List.getElem?_set_self hiσ]at e2
    cases e2
    exact⟨u,r,.inr ⟨.inl hk,c,hc,hc'⟩⟩
   ·rw[List.getElem?_set_ne (Ne.symm hj)]at e2
    obtain⟨u',r',q⟩:=hl j y v' e1 e2 e3
    refine⟨u',r',?_⟩
    rcases q with q|⟨k,c',e,z'⟩
    ·exact .inl q
    ·refine .inr ⟨k,c',e,z'.sameBut hs ?_⟩
     rintro rfl
     exact hj (Zjd hN e1 (I.ok.inj _ _ _ e hc▸hi))
  ·by_cases hcc:c'=c
   ·subst hcc;exact⟨_,hc'⟩
   ·obtain⟨w2,z2⟩:=I.cell y c' e
    exact⟨w2,z2.sameBut hs hcc⟩
  ·obtain⟨e,n,ne,nf,d⟩:=I.pin p hp
   refine⟨(hs.2 p.1 ?_).trans e,n,ne,nf,d⟩
   intro q
   rw[q,hoc]at e
   have q':oc=p.2:=Yo e
   exact d w' (by rw[<-q'];exact hocd)
theorem ZdZ {M:Model}{A:Around}{E:Value->Shared->Prop}{i:Nat}{x:Str}{v:V}{u:Value}{Q:Unit->Shared->Prop} (I:Inv X pins σ H s) (hN:X.N.Nodup) (hi:X.N[i]?=some x) (hx:Loc X.env.scope x) (r:RelV v u)
  (h:∀s',Inv X pins (σ.set i (some v)) H s'->Q () s') (hf:X.fn x=true\/X.env.scope.names.lookup x=some .local:=by first|exact .inl rfl|exact .inr rfl|assumption):wpAny M A (storeName X.env x u) Q E s :=
 ZlH I hN hi hx r (λs' I' _=>h s' I') hf
theorem Inv.call' {s':Shared}{ch:List Addr} (I:Inv X pins σ H s) (ho:s'.os=s.os) (u:Un (frs X.stack) ch H H' s.heap s'.heap) (hok:HOk X.prog X.w H' s'.heap) (hg:AllBare s'.gens)
  (hch:∀b∈ch,(b∈X.ex\/X.s₀.heap.objs.size<=b)/\b≠X.env.locals/\(∀x c,X.env.cells.lookup x=some c->c≠b)/\∀p∈X.pn++pins,p.1≠b):Inv X pins σ H' s':=by
 obtain⟨h',g',d',t',o'⟩:=s'
 have e:o'=s.os:=ho
 subst e
 exact I.call (g':=g') (t':=t') (d':=d') u hok hg hch
end
noncomputable abbrev XK:=Value->Option Addr->Hp->Prop
noncomputable abbrev St:=List (Option V)
noncomputable abbrev VK:=V->Hp->Prop
noncomputable abbrev TE:=St->Hp->VK->Prop
noncomputable abbrev TT:=St->Hp->(Bool->Hp->Prop)->Prop
noncomputable abbrev TA:=St->Hp->(List V->Hp->Prop)->Prop
structure Ends where
 nx:St->Hp->Prop
 rt:VK
 bk:St->Hp->Prop:=λ_ _=>False
 ct:St->Hp->Prop:=λ_ _=>False
noncomputable abbrev TS:=Ends->St->Hp->Prop
noncomputable def EP (X:Cx) (pins:List (Addr×Obj)) (σ:St) (Q:VK) (u:Value) (s':Shared):Prop:=∃v H',Inv X pins σ H' s'/\RelV v u/\Q v H'
noncomputable def TP (X:Cx) (pins:List (Addr×Obj)) (σ:St) (Q:Bool->Hp->Prop) (b:Bool) (s':Shared):Prop:=∃H',Inv X pins σ H' s'/\Q b H'
noncomputable def AP (X:Cx) (pins:List (Addr×Obj)) (σ:St) (Q:List V->Hp->Prop) (us:List Value) (s':Shared):Prop:=∃vs H',Inv X pins σ H' s'/\Vals vs us/\Q vs H'
noncomputable def SP (X:Cx) (pins:List (Addr×Obj)) (D:Ends) (f:Flow) (s':Shared):Prop :=
 match f with
 |.next=>∃σ' H',Inv X pins σ' H' s'/\D.nx σ' H'
 |.brk=>∃σ' H',Inv X pins σ' H' s'/\D.bk σ' H'
 |.cont=>∃σ' H',Inv X pins σ' H' s'/\D.ct σ' H'
 |.ret u=>∃v σ' H',Inv X pins σ' H' s'/\RelV v u/\D.rt v H'
noncomputable def PE (X:Cx) (e:Expr) (t:TE):Prop :=
 ∀(pins:List (Addr×Obj)) (s:Shared) (σ:St) (H:Hp) (Q:VK),Inv X pins σ H s->t σ H Q->wpAny (model X.prog X.w) X.A (eval e X.env) (EP X pins σ Q) X.xe s
noncomputable def PT (X:Cx) (e:Expr) (t:TT):Prop :=
 ∀(pins:List (Addr×Obj)) (s:Shared) (σ:St) (H:Hp) (Q:Bool->Hp->Prop),Inv X pins σ H s->t σ H Q->wpAny (model X.prog X.w) X.A (isTrue e X.env (eval e X.env)) (TP X pins σ Q) X.xe s
noncomputable def PW (X:Cx) (e:Expr) (t:TT):Prop :=
 ∀(whole:Sem Value) (pins:List (Addr×Obj)) (s:Shared) (σ:St) (H:Hp) (Q:Bool->Hp->Prop),Inv X pins σ H s->t σ H Q->wpAny (model X.prog X.w) X.A (isTrue e X.env whole) (TP X pins σ Q) X.xe s
theorem PW.pt {X:Cx}{e:Expr}{t:TT} (h:PW X e t):PT X e t:=h _
noncomputable def PA (X:Cx) (es:List Expr) (t:TA):Prop :=
 ∀(pos:Pos) (pins:List (Addr×Obj)) (s:Shared) (σ:St) (H:Hp) (Q:List V->Hp->Prop),Inv X pins σ H s->t σ H Q->wpAny (model X.prog X.w) X.A (spliced (backTo pos (starEach es X.env))) (AP X pins σ Q) X.xe s
noncomputable def PS (X:Cx) (st:Stmt) (t:TS):Prop :=
 ∀(pins:List (Addr×Obj)) (s:Shared) (σ:St) (H:Hp) (D:Ends),Inv X pins σ H s->t D σ H->wpAny (model X.prog X.w) X.A (exec st X.env) (SP X pins D) X.xe s
noncomputable def PSs (X:Cx) (st:List Stmt) (t:TS):Prop :=
 ∀(pins:List (Addr×Obj)) (s:Shared) (σ:St) (H:Hp) (D:Ends),Inv X pins σ H s->t D σ H->wpAny (model X.prog X.w) X.A (execs st X.env) (SP X pins D) X.xe s
theorem thn {α:Type}{t:Sem α}{Q Q':α->Shared->Prop}{M:Model}{A:Around}{E:Value->Shared->Prop}{s:Shared} (h:wpAny M A t Q E s) (hQ:∀a s,Q a s->Q' a s):wpAny M A t Q' E s:=YG h hQ λ_ _ x=>x
section
variable {X:Cx}
noncomputable def tVar (i:Nat):TE:=fun σ H Q=>∃v,σ[i]?=some (some v)/\Q v H
noncomputable def tC (v:V):TE:=λ_ H Q=>Q v H
theorem pe_var {i:Nat}{x:Str}{pos:Pos} (hN:X.N[i]?=some x) (hv:Vis X.env.scope x) (hd:(x==("__debug__":Str))=false:=by decide) (hcd:(x==("__classdict__":Str))=false:=by decide):PE X (.Name x pos) (tVar i):=by
 intro pins s σ H Q I h
 obtain⟨v,e,h⟩:=h
 obtain⟨m,hn,hl⟩:=I.loc
 obtain⟨u,r,l⟩:=hl i x v hN e hv
 have fin:EP X pins σ Q u s:=⟨v,H,I,r,h⟩
 rcases l with⟨hk,hm⟩|⟨hk,c,hc,hcell⟩
 ·exact wpAny_Name (wpAny_loadName_local I.ok.kind hk hn hm fin) hd
 ·rcases hk with hk|hk
  ·exact wpAny_Name (wpAny_loadName_cell I.ok.kind hk hc hcell fin) hd
  ·exact wpAny_Name (wpAny_loadName_free I.ok.kind hk hc hcell fin hcd) hd
theorem Ze {i j pos}:PE X (.Constant (.int i) j pos) (tC (.int i)):=λ_ _ _ H _ I h=>wpAny_Constant_int ⟨.int i,H,I.tok _,⟨_,rfl⟩,h⟩
theorem ZhR {b j pos}:PE X (.Constant (.bool b) j pos) (tC (.bl b)):=λ_ _ _ H _ I h=>Constant_bool ⟨.bl b,H,I,rfl,h⟩
theorem ZeT {j pos}:PE X (.Constant .none j pos) (tC .non):=λ_ _ _ H _ I h=>Constant_none ⟨.non,H,I,rfl,h⟩
noncomputable def Gl (X:Cx) (x:Str):Prop:=X.env.kindOf x=some .globalImplicit
theorem Zir {E:Value->Shared->Prop}{pins:List (Addr×Obj)}{s:Shared}{σ:St}{H:Hp}{x:Str}{u:Value}{pos:Pos}{Q:Value->Shared->Prop} (I:Inv X pins σ H s) (hg:Gl X x) (hm:X.mg x=some u) (h:Q u s)
  (hd:(x==("__debug__":Str))=false:=by decide):wpAny (model X.prog X.w) X.A (eval (.Name x pos) X.env) Q E s :=
 Calls.Name_function_global I.ok.kind hg (Calls.loadGlobal_global (by rw[I.ok.glob];exact I.mod.glob.keeps I.bk) hm h) hd
theorem Zd0 {E:Value->Shared->Prop}{pins:List (Addr×Obj)}{s:Shared}{σ:St}{H:Hp}{x:Str}{u:Value}{pos:Pos}{Q:Value->Shared->Prop} (I:Inv X pins σ H s) (hg:Gl X x) (hm:X.mg x=none) (hv:bootBuiltins x=some u) (h:Q u s)
  (hn:x≠"__name__":=by decide) (hd:(x==("__debug__":Str))=false:=by decide):wpAny (model X.prog X.w) X.A (eval (.Name x pos) X.env) Q E s:=by
 obtain⟨mb,h1,h2⟩:=I.mod.blt
 exact Calls.Name_function_global I.ok.kind hg (Calls.loadGlobal_builtin (by rw[I.ok.glob];exact I.mod.glob.keeps I.bk) hm (by rw[I.ok.blt];exact h1.keeps I.bk) ((h2 x hn).trans hv) h) hd
theorem Zis {x:Str}{v:V}{u:Value}{pos:Pos} (hg:Gl X x) (hm:X.mg x=none) (hv:bootBuiltins x=some u) (r:RelV v u) (hn:x≠"__name__":=by decide) (hd:(x==("__debug__":Str))=false:=by decide):PE X (.Name x pos) (tC v) :=
 λ_ _ _ H _ I h=>Zd0 I hg hm hv ⟨v,H,I,r,h⟩ hn hd
variable {a b:Expr}{ta tb:TE}{pos:Pos}
noncomputable def PC (X:Cx) (op:CmpOp) (a b:Expr) (t:TE):Prop :=
 ∀(pins:List (Addr×Obj)) (s:Shared) (σ:St) (H:Hp) (Q:VK),Inv X pins σ H s->t σ H Q ->
  wpAny (model X.prog X.w) X.A (eval a X.env) (λv s₁=>wpAny (model X.prog X.w) X.A (eval b X.env) (λu s₂=>wpAny (model X.prog X.w) X.A (compareOp op v u) (EP X pins σ Q) X.xe s₂) X.xe s₁) X.xe s
theorem Znz (b:Expr) {op:CmpOp} (h:op≠.In) (h2:op≠.NotIn):behindInMarks op b=false:=by
 have e1:(op==CmpOp.In)=false:=by cases op<;>first|rfl|exact absurd rfl h
 have e2:(op==CmpOp.NotIn)=false:=by cases op<;>first|rfl|exact absurd rfl h2
 cases b<;>simp[behindInMarks,e1,e2]
noncomputable def tB (t:TE):TT:=fun σ H Q=>t σ H λx H1=>∃c,x=.bl c/\Q c H1
theorem pt_cmp {op:CmpOp}{t:TE} (h:PC X op a b t) (h1:behindInMarks op b=false:=by first|exact Znz _ (by decide) (by decide)|rfl):PT X (.Compare a [op] [b] pos) (tB t):=by
 intro pins s σ H Q I hw
 refine wpAny_isTrue_Compare1 (thn (h pins s σ H _ I hw) λv s1 h1=>thn h1 λu s2 h2=>thn h2 λc s3 ⟨x,H1,I1,r1,q1⟩=>?_) h1
 obtain⟨d,rfl,q⟩:=q1
 cases r1
 exact wpAny_truthy_bool ⟨H1,I1,q⟩
theorem ZnA {e:Expr}{t:TE} (h:PE X e t) (he:∀whole,isTrue e X.env whole=(do let v <-whole;standAt e.pos;holding [v] (truthy v)):=by intro _;rfl):PT X e (tB t):=by
 intro pins s σ H Q I hw
 refine isTrue_plain (thn (h pins s σ H _ I hw) λv s1 ⟨x,H1,I1,r1,q1⟩=>?_) (he _)
 obtain⟨d,rfl,q⟩:=q1
 cases r1
 exact wpAny_truthy_bool ⟨H1,I1,q⟩
variable {tA tB':TT}{rest:List Expr}
noncomputable def tAnd (t u:TT):TT:=fun σ H Q=>t σ H λc H1=>if c=true then u σ H1 Q else Q false H1
noncomputable def tOr (t u:TT):TT:=fun σ H Q=>t σ H λc H1=>if c=true then Q true H1 else u σ H1 Q
noncomputable def tNot (t:TT):TT:=fun σ H Q=>t σ H λc H1=>Q (!c) H1
theorem Zit (ha:PT X a tA):PW X (.BoolOp .And [a] pos) tA:=by
 intro wh pins s σ H Q I h
 refine isTrue_and (thn (ha pins s σ H Q I h) λc s1 e=>?_)
 cases c with
 |true=>exact isTrue_and_nil e
 |false=>exact e
theorem ZgL (ha:PT X a tA):PW X (.BoolOp .Or [a] pos) tA:=by
 intro wh pins s σ H Q I h
 refine isTrue_or (thn (ha pins s σ H Q I h) λc s1 e=>?_)
 cases c with
 |false=>exact isTrue_or_nil e
 |true=>exact e
theorem Zkg (ha:PT X a tA) (hb:PW X (.BoolOp .And (b::rest) pos) tB'):PW X (.BoolOp .And (a::b::rest) pos) (tAnd tA tB'):=by
 intro wh pins s σ H Q I h
 refine isTrue_and (thn (ha pins s σ H _ I h) λc s1 ⟨H1,I1,q1⟩=>?_)
 cases c with
 |true=>exact hb wh pins s1 σ H1 Q I1 q1
 |false=>exact⟨H1,I1,q1⟩
theorem ZgM (ha:PT X a tA) (hb:PW X (.BoolOp .Or (b::rest) pos) tB'):PW X (.BoolOp .Or (a::b::rest) pos) (tOr tA tB'):=by
 intro wh pins s σ H Q I h
 refine isTrue_or (thn (ha pins s σ H _ I h) λc s1 ⟨H1,I1,q1⟩=>?_)
 cases c with
 |true=>exact⟨H1,I1,q1⟩
 |false=>exact hb wh pins s1 σ H1 Q I1 q1
theorem ZnB (ha:PT X a tA):PT X (.UnaryOp .Not a pos) (tNot tA):=by
 intro pins s σ H Q I h
 exact isTrue_not (ha pins s σ H (λc H1=>Q (!c) H1) I h)
noncomputable def tAndV (ta tb:TE):TE:=fun σ H Q=>ta σ H λx H1=>∃c,x=.bl c/\if c=true then tb σ H1 Q else Q (.bl false) H1
noncomputable def tNotV (ta:TE):TE:=fun σ H Q=>ta σ H λx H1=>∃c,x=.bl c/\Q (.bl (!c)) H1
theorem ZnC {op}{t:TE} (h:PE X a t):PE X (.BoolOp op [a] pos) t:=λpins s σ H Q I hw=>BoolOp_one (h pins s σ H Q I hw)
theorem Ziu (ha:PE X a ta) (hb:PE X (.BoolOp .And (b::rest) pos) tb):PE X (.BoolOp .And (a::b::rest) pos) (tAndV ta tb):=by
 intro pins s σ H Q I h
 refine BoolOp_and (thn (ha pins s σ H _ I h) λv s1 ⟨x,H1,I1,r1,q1⟩=>?_)
 obtain⟨c,rfl,q1⟩:=q1
 cases r1
 refine wpAny_truthy_bool ?_
 cases c with
 |true=>exact hb pins s1 σ H1 Q I1 q1
 |false=>exact⟨.bl false,H1,I1,rfl,q1⟩
theorem pe_not (ha:PE X a ta):PE X (.UnaryOp .Not a pos) (tNotV ta):=by
 intro pins s σ H Q I h
 refine UnaryOp_ (thn (ha pins s σ H _ I h) λv s1 ⟨x,H1,I1,r1,q1⟩=>?_)
 obtain⟨c,rfl,q1⟩:=q1
 cases r1
 exact not_of (wpAny_truthy_bool ⟨.bl (!c),H1,I1,rfl,q1⟩)
noncomputable def tIf (t:TT) (ta tb:TE):TE:=fun σ H Q=>t σ H λc H1=>if c=true then ta σ H1 Q else tb σ H1 Q
theorem Zje {c:Expr} (hc:PT X c tA) (ha:PE X a ta) (hb:PE X b tb):PE X (.IfExp c a b pos) (tIf tA ta tb):=by
 intro pins s σ H Q I h
 refine wpAny_IfExp (thn (hc pins s σ H _ I h) λd s1 ⟨H1,I1,q1⟩=>?_)
 cases d with
 |true=>exact ha pins s1 σ H1 Q I1 q1
 |false=>exact hb pins s1 σ H1 Q I1 q1
end
noncomputable def SqL (K:PySem.W.Frag) (H:Hp) (a:Addr) (xs:List V):Prop :=
 Rd H a (.lst xs) \/
  ∃(o:Obj) (its:Array Value) (n:Nat),K.lookup a=some o/\o.cls=.type "list"/\o.dict=none/\o.data=.seq its n/\its.size<=sizeLine/\Vals xs its.toList
noncomputable def SqT (K:PySem.W.Frag) (H:Hp) (a:Addr) (xs:List V):Prop :=
 Rd H a (.tup xs) \/
  ∃(o:Obj) (its:Array Value) (n:Nat),K.lookup a=some o/\o.cls=.type "tuple"/\o.data=.seq its n/\its.size<=sizeLine/\Vals xs its.toList
noncomputable def absV:Value->Option V
 |.none=>some .non
 |.bool b=>some (.bl b)
 |.int i _=>some (.int i)
 |.str x _=>some (.str x)
 |.bytes b _=>some (.byt b)
 |.float b _=>some (.flt b)
 |.ref a=>some (.ref a)
 |.type n=>some (.ty n)
 |_=>none
theorem RelV.abs {x:V}{u:Value} (r:RelV x u):absV u=some x:=by
 cases x with
 |non=>cases r;rfl
 |bl _=>cases r;rfl
 |int _=>obtain⟨t,rfl⟩:=r;rfl
 |str _=>obtain⟨t,rfl⟩:=r;rfl
 |byt _=>obtain⟨t,rfl⟩:=r;rfl
 |flt _=>obtain⟨t,rfl⟩:=r;rfl
 |ref _=>cases r;rfl
 |ty _=>cases r;rfl
theorem RelV.inj {x y:V}{u:Value} (r:RelV x u) (q:RelV y u):x=y:=Yo (r.abs.symm.trans q.abs)
theorem Vals.inj:∀{xs ys:List V}{us:List Value},Vals xs us->Vals ys us->xs=ys
 |_,_,_,.nil,.nil=>rfl
 |_,_,_,.cons r t,.cons r' t'=>by rw[r.inj r',Vals.inj t t']
section
variable {X:Cx}{pins:List (Addr×Obj)}{σ:St}{H:Hp}{s:Shared}{a:Addr}{xs ys:List V}
theorem SqL.of {K:PySem.W.Frag} (h:H a=some (.lst xs)):SqL K H a xs:=.inl (.inl h)
theorem SqT.of {K:PySem.W.Frag} (h:H a=some (.tup xs)):SqT K H a xs:=.inl (.inl h)
theorem Inv.list (I:Inv X pins σ H s) (h:SqL X.K H a xs):∃its:List Value,Vals xs its/\PlainL s.heap a its.toArray/\xs.length<=sizeLine:=by
 rcases h with h|⟨o,its,n,hk,hc,hd,hs,hz,r⟩
 ·obtain⟨z,its,n,r,e⟩:=h.ok I.hok
  exact⟨its,r,⟨_,n,e,rfl,rfl,rfl⟩,z⟩
 ·refine⟨its.toList,r,⟨o,n,I.kIn a o hk,hc,hd,by simpa using hs⟩,?_⟩
  have e:=r.length
  simp only[YS]at e
  omega
theorem Inv.tuple (I:Inv X pins σ H s) (h:SqT X.K H a xs):∃its:List Value,Vals xs its/\IsTup s.heap a its.toArray/\xs.length<=sizeLine:=by
 rcases h with h|⟨o,its,n,hk,hc,hs,hz,r⟩
 ·obtain⟨z,its,r,p⟩:=h.ok I.hok
  exact⟨its,r,p,z⟩
 ·refine⟨its.toList,r,⟨o,I.kIn a o hk,hc,n,by simpa using hs⟩,?_⟩
  have e:=r.length
  simp only[YS]at e
  omega
theorem Inv.ZbQ (I:Inv X pins σ H s) (h:SqL X.K H a xs) (h':SqL X.K H a ys):xs=ys:=by
 obtain⟨its,r,⟨o,n,e,_,_,d⟩,_⟩:=I.list h
 obtain⟨its',r',⟨o',n',e',_,_,d'⟩,_⟩:=I.list h'
 rw[e]at e';cases e'
 rw[d]at d'
 injection d' with d1 _
 have:its=its':=by simpa using congrArg Array.toList d1
 subst this
 exact r.inj r'
theorem Inv.ZfD (I:Inv X pins σ H s) (h:SqT X.K H a xs) (h':SqT X.K H a ys):xs=ys:=by
 obtain⟨its,r,⟨o,e,_,n,d⟩,_⟩:=I.tuple h
 obtain⟨its',r',⟨o',e',_,n',d'⟩,_⟩:=I.tuple h'
 rw[e]at e';cases e'
 rw[d]at d'
 injection d' with d1 _
 have:its=its':=by simpa using congrArg Array.toList d1
 subst this
 exact r.inj r'
end
noncomputable abbrev Cx.Zhy (X:Cx) (E:Value->Shared->Prop):Cx:={X with xe:=E}
noncomputable abbrev Cx.nox (X:Cx):Cx:=X.Zhy λ_ _=>False
theorem Cx.Ok.Zhy {X:Cx} (ok:X.Ok) (E:Value->Shared->Prop):(X.Zhy E).Ok :=
 ⟨ok.mod,ok.kind,ok.glob,ok.blt,ok.above,ok.inj,ok.has,ok.cab,ok.hd,ok.frames,ok.stk,ok.exf,ok.bs,ok.bsz,ok.noex,ok.exfs,ok.funs,ok.frf⟩
theorem Cx.Ok.Zd1 {X:Cx}{E:Value->Shared->Prop} (ok:(X.Zhy E).Ok):X.Ok :=
 ⟨ok.mod,ok.kind,ok.glob,ok.blt,ok.above,ok.inj,ok.has,ok.cab,ok.hd,ok.frames,ok.stk,ok.exf,ok.bs,ok.bsz,ok.noex,ok.exfs,ok.funs,ok.frf⟩
section
variable {X:Cx}{pins:List (Addr×Obj)}{σ:St}{H:Hp}{s:Shared}{E:Value->Shared->Prop}
theorem Inv.Zhy (I:Inv X pins σ H s) (E:Value->Shared->Prop):Inv (X.Zhy E) pins σ H s:=⟨I.ok.Zhy E,I.os,I.bare,I.base,I.loc,I.cell,I.free,I.freeC,I.pin,I.hok,I.len⟩
theorem Inv.Zd1 (I:Inv (X.Zhy E) pins σ H s):Inv X pins σ H s:=⟨I.ok.Zd1,I.os,I.bare,I.base,I.loc,I.cell,I.free,I.freeC,I.pin,I.hok,I.len⟩
theorem SP.Zd1 {D:Ends}{f:Flow}{s':Shared} (h:SP (X.Zhy E) pins D f s'):SP X pins D f s':=by
 cases f with
 |next=>obtain⟨σ',H',I,q⟩:=h;exact⟨σ',H',I.Zd1,q⟩
 |brk=>obtain⟨σ',H',I,q⟩:=h;exact⟨σ',H',I.Zd1,q⟩
 |cont=>obtain⟨σ',H',I,q⟩:=h;exact⟨σ',H',I.Zd1,q⟩
 |ret u=>obtain⟨v,σ',H',I,r,q⟩:=h;exact⟨v,σ',H',I.Zd1,r,q⟩
end
section
variable {X:Cx}{st:Stmt}{rest:List Stmt}{t u:TS}{e:Expr}{te:TE}{pos:Pos}
noncomputable def tNext:TS:=λD σ H=>D.nx σ H
noncomputable def tSeq (t u:TS):TS:=λD σ H=>t {D with nx:=u D} σ H
theorem ZJ:PSs X [] tNext:=λ_ _ σ H _ I h=>wpAny_execs_nil ⟨σ,H,I,h⟩
theorem Zd (h1:PS X st t) (h2:PSs X rest u):PSs X (st::rest) (tSeq t u):=by
 intro pins s σ H D I h
 refine wpAny_execs_cons (thn (h1 pins s σ H {D with nx:=u D} I h) λf s1 q=>?_)
 cases f with
 |next =>
  obtain⟨σ',H',I',q⟩:=q
  exact h2 pins s1 σ' H' D I' q
 |ret v=>exact q
 |brk=>exact q
 |cont=>exact q
theorem Zf (h1:PS X st t):PSs X [st] t:=by
 intro pins s σ H D I h
 refine wpAny_execs_cons (thn (h1 pins s σ H D I h) λf s1 q=>?_)
 cases f with
 |next=>exact wpAny_execs_nil q
 |ret v=>exact q
 |brk=>exact q
 |cont=>exact q
theorem Inv.quiet {pins:List (Addr×Obj)}{σ:St}{H:Hp}{s:Shared} (I:Inv X pins σ H s):interactive X.env=false:=by simp[interactive,I.ok.kind]
noncomputable def tDrop (te:TE):TS:=λD σ H=>te σ H λ_ H1=>D.nx σ H1
theorem Z4 (he:PE X e te) (hs:swapsWith e none pos.line X.env=pure false:=by rfl):PS X (.Expr e pos) (tDrop te):=by
 intro pins s σ H D I h
 exact wpAny_Expr_any (thn (he pins s σ H _ I h) λv s1 ⟨x,H1,I1,r1,q1⟩=>⟨σ,H1,I1,q1⟩) I.quiet hs
noncomputable def tRet (te:TE):TS:=λD σ H=>te σ H D.rt
theorem Zx (he:PE X e te):PS X (.Return (some e) pos) (tRet te):=by
 intro pins s σ H D I h
 exact wpAny_Return_some (thn (he pins s σ H _ I h) λv s1 ⟨x,H1,I1,r1,q1⟩=>⟨x,σ,H1,I1,r1,q1⟩)
noncomputable def tIfS (c:TT) (t u:TS):TS:=λD σ H=>c σ H λb H1=>if b=true then t D σ H1 else u D σ H1
theorem Zaa {c:Expr}{a b:List Stmt}{tc:TT} (hc:PT X c tc) (ha:PSs X a t) (hb:PSs X b u):PS X (.If c a b pos) (tIfS tc t u):=by
 intro pins s σ H D I h
 refine wpAny_If (thn (hc pins s σ H _ I h) λd s1 ⟨H1,I1,q1⟩=>?_)
 cases d with
 |true=>exact ha pins s1 σ H1 D I1 q1
 |false=>exact hb pins s1 σ H1 D I1 q1
end
noncomputable abbrev TG:=V->St->Hp->(St->Hp->Prop)->Prop
noncomputable abbrev TGs:=List V->St->Hp->(St->Hp->Prop)->Prop
noncomputable def PG (X:Cx) (target:Expr) (t:TG):Prop :=
 ∀(pins:List (Addr×Obj)) (s:Shared) (σ:St) (H:Hp) (v:V) (u:Value) (Q:St->Hp->Prop),Inv X pins σ H s->RelV v u->t v σ H Q ->
  wpAny (model X.prog X.w) X.A (assign target X.env u) (λ_ s'=>∃σ' H',Inv X pins σ' H' s'/\Q σ' H') X.xe s
noncomputable def PGs (X:Cx) (ts:List Expr) (t:TGs):Prop :=
 ∀(pins:List (Addr×Obj)) (s:Shared) (σ:St) (H:Hp) (vs:List V) (us:List Value) (Q:St->Hp->Prop),Inv X pins σ H s->Vals vs us->t vs σ H Q ->
  wpAny (model X.prog X.w) X.A (assignInOrder ((assignEach ts X.env).map (·.2)) us) (λ_ s'=>∃σ' H',Inv X pins σ' H' s'/\Q σ' H') X.xe s
noncomputable abbrev TSet:=V->V->V->Hp->(Hp->Prop)->Prop
noncomputable def PSet (X:Cx) (t:TSet):Prop :=
 ∀(pins:List (Addr×Obj)) (s:Shared) (σ:St) (H:Hp) (o i v:V) (ov iv u:Value) (Q:Hp->Prop),Inv X pins σ H s->RelV o ov->RelV i iv->RelV v u->t o i v H Q ->
  wpAny (model X.prog X.w) X.A (setItem ov iv u) (λ_ s'=>∃H',Inv X pins σ H' s'/\Q H') X.xe s
noncomputable abbrev TIp:=V->V->Hp->VK->Prop
noncomputable def PIp (X:Cx) (op:Operator) (t:TIp):Prop :=
 ∀(pins:List (Addr×Obj)) (s:Shared) (σ:St) (H:Hp) (x y:V) (v u:Value) (Q:VK),Inv X pins σ H s->RelV x v->RelV y u->t x y H Q ->
  wpAny (model X.prog X.w) X.A (inplaceOp op v u) (EP X pins σ Q) X.xe s
section
variable {X:Cx}{pos:Pos}
noncomputable def gName (i:Nat):TG:=λv σ H Q=>Q (σ.set i (some v)) H
theorem Zu {i:Nat}{x:Str} (hN:X.N.Nodup) (hi:X.N[i]?=some x) (hx:Loc X.env.scope x) (hf:X.fn x=true\/X.env.scope.names.lookup x=some .local:=by first|exact .inl rfl|exact .inr rfl|assumption):PG X (.Name x pos) (gName i):=by
 intro pins s σ H v u Q I r h
 exact wpAny_assign_Name (ZdZ I hN hi hx r (λs' I'=>⟨_,H,I',h⟩) hf)
noncomputable def gNil:TGs:=λvs σ H Q=>vs=[]/\Q σ H
noncomputable def gCons (t:TG) (u:TGs):TGs:=λvs σ H Q=>∃v r,vs=v::r/\t v σ H fun σ' H'=>u r σ' H' Q
theorem ZeB:PGs X [] gNil:=by
 intro pins s σ H vs us Q I r h
 obtain⟨e,h⟩:=h
 subst e
 cases r
 exact assignInOrder_nil ⟨σ,H,I,h⟩
theorem Zal {e:Expr}{es:List Expr}{t:TG}{u:TGs} (h1:PG X e t) (h2:PGs X es u)
  (hs:(assignEach (e::es) X.env).map (·.2)=assign e X.env::(assignEach es X.env).map (·.2):=by rfl):PGs X (e::es) (gCons t u):=by
 intro pins s σ H vs us Q I r h
 obtain⟨v,vr,e1,h⟩:=h
 subst e1
 cases r with
 |cons r rr =>
  rw[hs]
  refine assignInOrder_cons (thn (h1 pins s σ H _ _ _ I r h) λ_ s1 ⟨σ1,H1,I1,q1⟩=>?_)
  exact h2 pins s1 σ1 H1 _ _ Q I1 rr q1
noncomputable def gTup (K:PySem.W.Frag) (n:Nat) (t:TGs):TG:=λv σ H Q=>∃a xs,v=.ref a/\SqT K H a xs/\xs.length=n/\t xs σ H Q
theorem Ziv {es:List Expr}{k:Nat}{t:TGs}{n:Nat} (hc:X.calm=true) (h:PGs X es t)
  (hn:(assignEach es X.env).length=n:=by rfl) (hst:(assignEach es X.env).findIdx? (·.1)=none:=by rfl):PG X (.Tuple es k pos) (gTup X.K n t):=by
 intro pins s σ H v u Q I r hw
 obtain⟨a,xs,e1,hq,hl,hw⟩:=hw
 subst e1
 cases r
 obtain⟨its,rv,ht,hz⟩:=I.tuple hq
 refine assign_Tuple_tuple (I.ok.hd hc) ht (by simp[hn,<-hl,rv.length]) hst λh' hx=>?_
 have I1:Inv X pins σ H {s with heap:=h'}:=I.kept (t':=s.toks) λb o e=>hx b o (Yp (Yh e)) e
 exact h pins _ σ H xs _ Q I1 (by simpa using rv) hw
noncomputable def gSub (to ti:TE) (t:TSet):TG:=λv σ H Q=>to σ H λo H1=>ti σ H1 λi H2=>t o i v H2 λH3=>Q σ H3
theorem Zkh {o i:Expr}{to ti:TE}{t:TSet} (ho:PE X o to) (hi:PE X i ti) (hs:PSet X t)
  (ha:∀v,assign (.Subscript o i pos) X.env v=(do
   let ov <-holding [v] (eval o X.env)
   let iv <-holding [v,ov] (eval i X.env)
   standAt pos
   holding [v,ov,iv] (setItem ov iv v)
   release [v,ov,iv] []):=by intro _;rfl):PG X (.Subscript o i pos) (gSub to ti t):=by
 intro pins s σ H v u Q I r h
 rw[ha]
 refine Ya (wpAny_holding (thn (ho pins s σ H _ I h) λov s1 ⟨x,H1,I1,r1,q1⟩=>?_))
 refine Ya (wpAny_holding (thn (hi pins s1 σ H1 _ I1 q1) λiv s2 ⟨y,H2,I2,r2,q2⟩=>?_))
 refine Ya (wpAny_standAt (Ya (wpAny_holding (thn (hs pins s2 σ H2 x y v ov iv u _ I2 r1 r2 r q2) λ_ s3 ⟨H3,I3,q3⟩=>?_))))
 exact wpAny_release ⟨σ,H3,I3,q3⟩
noncomputable def tAsg (te:TE) (g:TG):TS:=λD σ H=>te σ H λx H1=>g x σ H1 D.nx
theorem Zki {tg e:Expr}{te:TE}{g:TG} (he:PE X e te) (hg:PG X tg g) (hs:swapsWithSole [tg] e pos.line X.env=pure false:=by rfl) (hw:swappedStores [tg] e X.env=pure none:=by rfl)
  (h1:(assignEach [tg] X.env).map (·.2)=[assign tg X.env]:=by rfl):PS X (.Assign [tg] e pos) (tAsg te g):=by
 intro pins s σ H D I h
 refine wpAny_Assign_stores (thn (he pins s σ H _ I h) λv s1 ⟨x,H1,I1,r1,q1⟩=>?_) hs hw
 rw[h1]
 exact thn (hg pins s1 σ H1 x v _ I1 r1 q1) λ_ s2 q=>q
theorem Zr {i:Nat}{x:Str}{e:Expr}{te:TE}{pos':Pos} (hN:X.N.Nodup) (hi:X.N[i]?=some x) (hx:Loc X.env.scope x) (he:PE X e te) (hs:swapsWith e (some (.Name x pos')) pos.line X.env=pure false:=by rfl) (hf:X.fn x=true\/X.env.scope.names.lookup x=some .local:=by first|exact .inl rfl|exact .inr rfl|assumption) :
  PS X (.Assign [.Name x pos'] e pos) (tAsg te (gName i)):=by
 intro pins s σ H D I h
 refine wpAny_Assign_Name (thn (he pins s σ H _ I h) λv s1 ⟨y,H1,I1,r1,q1⟩=>?_) hs
 exact ZdZ I1 hN hi hx r1 (λs2 I2=>⟨_,H1,I2,q1⟩) hf
noncomputable def tPar (i j:Nat) (ta:TA):TS:=λD σ H=>ta σ H λvs H1=>∃v w,vs=[v,w]/\D.nx ((σ.set i (some v)).set j (some w)) H1
theorem ZnD {i j:Nat}{x y:Str}{a b:Expr}{ta:TA}{px py pt:Pos} {kt k2 pt2} (hc:X.calm=true) (hN:X.N.Nodup) (hi:X.N[i]?=some x) (hj:X.N[j]?=some y) (hij:i≠j)
  (hx:X.env.scope.names.lookup x=some .local) (hy:X.env.scope.names.lookup y=some .local) (ha:PA X [a,b] ta)
  (hw:swappedStores [.Tuple [.Name x px,.Name y py] kt pt] (.Tuple [a,b] k2 pt2) X.env=pure (some [x,y]))
  (hs:swapsWithSole [.Tuple [.Name x px,.Name y py] kt pt] (.Tuple [a,b] k2 pt2) pos.line X.env=pure false:=by rfl) :
  PS X (.Assign [.Tuple [.Name x px,.Name y py] kt pt] (.Tuple [a,b] k2 pt2) pos) (tPar i j ta):=by
 intro pins s σ H D I h
 rw[exec_Assign_arm]
 refine Ya (wpAny_standAt ?_)
 rw[hs]
 refine Ya (Yc ?_)
 rw[Yb (by decide)]
 refine Ya (Tuple_ (thn (ha _ pins s σ H _ I h) λus s1 ⟨vs,H1,I1,r1,q1⟩=>?_))
 obtain⟨v,w,e1,q1⟩:=q1
 subst e1
 obtain⟨u1,u2,rfl,rv,rw'⟩:∃u1 u2,us=[u1,u2]/\RelV v u1/\RelV w u2:=by
  cases r1 with
  |cons p q =>
   cases q with
   |cons p' q' =>
    cases q'
    exact⟨_,_,rfl,p,p'⟩
 refine wpAny_newObj_type ?_ (by show 2<=sizeLine;decide)
 have I2:Inv X pins σ H1 {s1 with heap:=s1.heap.push {cls:=.type "tuple",data:=.seq [u1,u2].toArray}}:=I1.kept (t':=s1.toks) λb o e=>Yn _ e
 rw[hw]
 refine Ya (Yc ?_)
 show wpAny (model X.prog X.w) X.A (do rule "assign.swapped-stores";let items <-unpackItems (.ref s1.heap.objs.size) 2 none;assignInOrder [λv=>bindName X.env y v,λv=>bindName X.env x v] items.reverse;pure Flow.next) _ _ _
 refine Ya (wpAny_rule (Ya (unpackItems_tuple (items:=#[u1,u2]) (I.ok.hd hc) (IsTup.new s1.heap _) λh' hx'=>?_)))
 have I3:=I2.kept (h':=h') (t':=s1.toks) λb o e=>hx' b o (Yp (Yh e)) e
 show wpAny _ _ (assignInOrder [λv=>bindName X.env y v,λv=>bindName X.env x v] [u2,u1] >>= λ_=>pure Flow.next) _ _ _
 refine Ya (assignInOrder_cons (wpAny_bindName (ZdZ I3 hN hj (.inl hy) rw' (λs2 I4=>?_) (.inr hy))))
 refine assignInOrder_cons (wpAny_bindName (ZdZ I4 hN hi (.inl hx) rv (λs3 I5=>assignInOrder_nil (Yc ?_)) (.inr hx)))
 rw[List.set_comm _ _ (Ne.symm hij)]at I5
 exact⟨_,H1,I5,q1⟩
noncomputable def tAug (i:Nat) (te:TE) (ti:TIp):TS:=λD σ H=>∃x,σ[i]?=some (some x)/\te σ H λy H1=>ti x y H1 λz H2=>D.nx (σ.set i (some z)) H2
theorem ps_aug {i:Nat}{x:Str}{e:Expr}{te:TE}{op:Operator}{ti:TIp}{pos':Pos} (hN:X.N.Nodup) (hi:X.N[i]?=some x) (hx:Loc X.env.scope x) (he:PE X e te) (ho:PIp X op ti) (hf:X.fn x=true\/X.env.scope.names.lookup x=some .local:=by first|exact .inl rfl|exact .inr rfl|assumption) :
  PS X (.AugAssign (.Name x pos') op e pos) (tAug i te ti):=by
 intro pins s σ H D I h
 obtain⟨v,e1,h⟩:=h
 obtain⟨m,hn,hl⟩:=I.loc
 have vis:Vis X.env.scope x:=by rcases hx with k|k;exact .inl k;exact .inr (.inl k)
 obtain⟨u,r,l⟩:=hl i x v hi e1 vis
 refine wpAny_AugAssign_Name ?_
 have go:wpAny (model X.prog X.w) X.A (eval e X.env) (λw s₂=>wpAny (model X.prog X.w) X.A (inplaceOp op u w) (λr s₃=>wpAny (model X.prog X.w) X.A (storeName X.env x r) (λ_=>SP X pins D .next) X.xe s₃) X.xe s₂) X.xe s:=by
  refine thn (he pins s σ H _ I h) λw s1 ⟨y,H1,I1,r1,q1⟩=>?_
  refine thn (ho pins s1 σ H1 v y u w _ I1 r r1 q1) λz s2 ⟨zv,H2,I2,r2,q2⟩=>?_
  exact ZdZ I2 hN hi hx r2 (λs3 I3=>⟨_,H2,I3,q2⟩) hf
 rcases l with⟨hk,hm⟩|⟨hk,c,hc,hcell⟩
 ·exact wpAny_loadName_local I.ok.kind hk hn hm go
 ·rcases hk with hk|hk
  ·exact wpAny_loadName_cell I.ok.kind hk hc hcell go
  ·rcases hx with k|k
   ·have:X.env.scope.names.lookup x=some .free:=hk
    rw[k]at this;cases this
   ·have:X.env.scope.names.lookup x=some .free:=hk
    rw[k]at this;cases this
noncomputable def ipI (f:Int->Int->Int):TIp:=λx y H Q=>∃i j,x=.int i/\y=.int j/\Q (.int (f i j)) H
theorem ip_sub:PIp X .Sub (ipI λi j=>i-j):=by
 intro pins s σ H x y v u Q I r1 r2 h
 obtain⟨i,j,e1,e2,q⟩:=h
 subst e1;subst e2
 obtain⟨t,rfl⟩:=r1
 obtain⟨t',rfl⟩:=r2
 exact isub_int ⟨.int _,H,I.tok _,⟨_,rfl⟩,q⟩
end
section
variable {X:Cx}{pos:Pos}
noncomputable def Zkj (c:TT) (tb:TS):TS:=λD σ H=>∃W:Nat->St->Hp->Prop,(∃m,W m σ H)/\∀m σ H,W m σ H ->
 c σ H λb H1=>if b=true then ∃N:St->Hp->Prop,(∀σ' H',N σ' H'->∃m',m'<m/\W m' σ' H')/\tb {D with nx:=N,ct:=N,bk:=D.nx} σ H1 else D.nx σ H1
theorem ZgN {c:Expr}{body:List Stmt}{tc:TT}{tb:TS} (hp:PassesOwn (model X.prog X.w) X.A X.env X.xe) (hc:PT X c tc) (hb:PSs X body tb):PS X (.While c body [] pos) (Zkj tc tb):=by
 intro pins s σ H D I h
 obtain⟨W,⟨m0,w0⟩,turn⟩:=h
 refine wpAny_While (codeAny_whileLoop (λn s'=>∃σ' H',Inv X pins σ' H' s'/\W n σ' H') ?_ m0 ⟨σ,H,I,w0⟩)
 rintro n s1 ⟨σ1,H1,I1,w1⟩
 refine wpAny_passesOwn hp (thn (hc pins s1 σ1 H1 _ I1 (turn n σ1 H1 w1)) λb s2 ⟨H2,I2,q2⟩=>?_)
 cases b with
 |true =>
  obtain⟨N,hN,q2⟩:=q2
  rw[Yd rfl]
  refine wpAny_passesOwn hp (thn (hb pins s2 σ1 H2 _ I2 q2) λf s3 q3=>?_)
  cases f with
  |next =>
   obtain⟨σ3,H3,I3,n3⟩:=q3
   obtain⟨m',hm,w3⟩:=hN σ3 H3 n3
   exact⟨m',hm,σ3,H3,I3,w3⟩
  |cont =>
   obtain⟨σ3,H3,I3,n3⟩:=q3
   obtain⟨m',hm,w3⟩:=hN σ3 H3 n3
   exact⟨m',hm,σ3,H3,I3,w3⟩
  |brk=>exact q3
  |ret v=>exact q3
 |false =>
  rw[Yb Yr]
  exact wpAny_execs_nil ⟨σ1,H2,I2,q2⟩
end
structure It where
 go:Nat->Hp->Prop
 yld:Nat->Hp->V->Hp->Prop
 stop:Nat->Hp->Prop
noncomputable def FpOk (X:Cx) (pins:List (Addr×Obj)) (H:Hp) (b:Addr):Prop :=
 H b=none/\b≠X.env.locals/\b∉X.fs/\(b∈X.ex\/X.s₀.heap.objs.size<=b)/\(∀x c,X.env.cells.lookup x=some c->c≠b)/\∀p∈X.pn++pins,p.1≠b
theorem Inv.fpOk {X:Cx}{pins:List (Addr×Obj)}{σ:St}{H H':Hp}{s:Shared}{b:Addr} (I:Inv X pins σ H s) (hb:s.heap.objs.size<=b) (hn:H' b=none):FpOk X pins H' b:=by
 refine⟨hn,Nat.ne_of_gt (Ym I.lt hb),I.nofs hb,.inr (Yj I.sz hb),λx c e z=>?_,λp hp z=>?_⟩
 ·obtain⟨v,q⟩:=I.cell x c e
  exact absurd (Ym q.lt (by rw[z];exact hb)) (Yu _)
 ·exact absurd (Ym (Yh (I.pin p hp).1) (by rw[z];exact hb)) (Yu _)
structure Turn (P:Program) (w:World) (K:PySem.W.Frag) (tg:Expr) (J:It) (fp:List Addr) (it:Addr) (tn:Nat->Heap->Prop):Prop where
 mem:it∈fp
 obj:∀i h,tn i h->∀b∈fp,∃o,h.get? b=some o/\∀v,o.data≠.cell v
 keep:∀i h h',tn i h->(∀b∈fp,∀o,h.get? b=some o->h'.get? b=some o)->tn i h'
 item:∀(X:Cx),X.prog=P->X.w=w->X.K=K->X.calm=true->∀(i:Nat) (pins:List (Addr×Obj)) (s:Shared) (σ:St) (H:Hp) (E:Value->Shared->Prop),Inv X pins σ H s->(∀b∈fp,FpOk X pins H b)->tn i s.heap->J.go i H ->
  wpAny (model P w) X.A (pyNext (.ref it)) (λr s1=>∃u,r=some u /\
   wpAny (model P w) X.A (letOwnedTupleGo tg (.ref it) u) (λ_ s2=>∃x H',Inv X pins σ H' s2/\RelV x u/\J.yld i H x H'/\tn (i+1) s2.heap/\∀b∈fp,H' b=none) E s1) E s
 done:∀(X:Cx),X.prog=P->X.w=w->X.K=K->X.calm=true->∀(i:Nat) (pins:List (Addr×Obj)) (s:Shared) (σ:St) (H:Hp) (E:Value->Shared->Prop),Inv X pins σ H s->(∀b∈fp,FpOk X pins H b)->tn i s.heap->J.stop i H ->
  wpAny (model P w) X.A (pyNext (.ref it)) (λr s1=>r=none/\Inv X pins σ H s1) E s
 self:∀(A:Around) (i:Nat) (s:Shared) (Q:Value->Shared->Prop) (E:Value->Shared->Prop),tn i s.heap->Q (.ref it) s->wpAny (model P w) A (pyIter (.ref it)) Q E s
noncomputable abbrev TI:=St->Hp->(It->Hp->Prop)->Prop
noncomputable def PIE (X:Cx) (pins:List (Addr×Obj)) (σ:St) (tg:Expr) (R:It->Hp->Prop) (itv:Value) (s2:Shared):Prop :=
 ∃(it:Addr) (fp:List Addr) (tn:Nat->Heap->Prop) (J:It) (H':Hp),itv=.ref it/\Inv X pins σ H' s2/\Turn X.prog X.w X.K tg J fp it tn/\tn 0 s2.heap/\(∀b∈fp,FpOk X pins H' b)/\R J H'
noncomputable def PI (X:Cx) (tg iter:Expr) (wi:TI):Prop :=
 ∀(pins:List (Addr×Obj)) (s:Shared) (σ:St) (H:Hp) (R:It->Hp->Prop),Inv X pins σ H s->wi σ H R ->
  wpAny (model X.prog X.w) X.A (eval iter X.env) (λv s1=>wpAny (model X.prog X.w) X.A (pyIter v) (PIE X pins σ tg R) X.xe s1) X.xe s
theorem ZnE {M : Model} {A : Around} {E : Value → Shared → Prop} {s : Shared} {tg : Expr} {it : Addr} {u : Value} {o : Obj} {n : String} {vs : Array Value} {Q : Unit → Shared → Prop} (ho : s.heap.get? it = some o) (hc : o.cls = .type n) (hd : o.data = .fields vs)
    (hn : ["enumerate", "zip", "dict_itemiterator", "dict_reverseitemiterator", "odict_iterator", "itertools.zip_longest", "itertools.pairwise"].contains n = false) (hQ : Q () s) : wpAny M A (letOwnedTupleGo tg (.ref it) u) Q E s := by
  unfold letOwnedTupleGo
  cases tg <;> first
    | exact Yc hQ
    | (cases u <;> first
        | exact Yc hQ
        | (refine Ya (wpAny_load ho ?_)
           rw [hc, hd]
           show wpAny M A (if (["enumerate", "zip", "dict_itemiterator", "dict_reverseitemiterator", "odict_iterator", "itertools.zip_longest", "itertools.pairwise"].contains n && vs[0]? == some (rawInt _)) = true then _ else _) Q E s
           rw [Yb (by intro h; rw [hn, Bool.false_and] at h; cases h)]
           exact Yc hQ))
noncomputable def Itl (K:PySem.W.Frag) (a:Addr):It :=
 ⟨λi H=>∃xs x,SqL K H a xs/\xs[i]?=some x,λi H x H'=>H'=H/\∀xs,SqL K H a xs->xs[i]?=some x,λi H=>∃xs,SqL K H a xs/\xs.length<=i⟩
noncomputable def Itt (K:PySem.W.Frag) (a:Addr):It :=
 ⟨λi H=>∃xs x,SqT K H a xs/\xs[i]?=some x,λi H x H'=>H'=H/\∀xs,SqT K H a xs->xs[i]?=some x,λi H=>∃xs,SqT K H a xs/\xs.length<=i⟩
noncomputable def Itr (lo:Int) (n:Nat):It:=⟨λi _=>i<n,λi H x H'=>H'=H/\x=.int (lo+i),λi _=>n<=i⟩
theorem ZlI {P:Program}{w:World}{K:PySem.W.Frag}{tg:Expr} (a it:Addr):Turn P w K tg (Itl K a) [it] it (λi h=>h.IsListIter it a i) where
 mem:=by simp
 obj:=λi h st b hb=>by
  have e:b=it:=by simpa using hb
  subst e
  obtain⟨o,e,c,d⟩:=st
  exact⟨o,e,λv z=>by rw[d]at z;cases z⟩
 keep:=λi h h' st k=>st.at λo e=>k it (by simp) o e
 item:=by
  intro X hP hw hK hc i pins s σ H E I hf st hg
  subst hP hw hK
  obtain⟨xs,x,hq,hx⟩:=hg
  obtain⟨its,rv,p,hz⟩:=I.list hq
  obtain⟨u,hu,ru⟩:=rv.get hx
  obtain⟨f0,f1,f2,f3,f4,f5⟩:=hf it (by simp)
  refine wpAny_pyNext_list_item st p.isList (x:=u) (by simpa using hu) λh' st' sb=>?_
  have I1:Inv X pins σ H {s with heap:=h'}:=I.turned (t':=s.toks) (λb o hb e=>(sb.2 b hb).trans e) f0 f1 f3 f4 f5
  obtain⟨o,e,c,d⟩:=id st'
  exact⟨u,rfl,ZnE (s:={s with heap:=h'}) e c d (by decide) ⟨x,H,I1,ru,⟨rfl,λys hy=>by rw[I.ZbQ hy hq];exact hx⟩,st',λb hb=>(hf b hb).1⟩⟩
 done:=by
  intro X hP hw hK hc i pins s σ H E I hf st hg
  subst hP hw hK
  obtain⟨xs,hq,hx⟩:=hg
  obtain⟨its,rv,p,hz⟩:=I.list hq
  obtain⟨f0,f1,f2,f3,f4,f5⟩:=hf it (by simp)
  have hl:=rv.length
  exact wpAny_pyNext_list_end (I.ok.hd hc) st p.isList (by simp;omega) λh' eb=>⟨rfl,I.turned (t':=s.toks) (λb o hb e=>eb b o hb e) f0 f1 f3 f4 f5⟩
 self:=λ_ _ _ _ _ st h=>wpAny_pyIter_listiter st h
theorem Zkk {P:Program}{w:World}{K:PySem.W.Frag}{tg:Expr} (a it:Addr):Turn P w K tg (Itt K a) [it] it (λi h=>h.IsTupleIter it a i) where
 mem:=by simp
 obj:=λi h st b hb=>by
  have e:b=it:=by simpa using hb
  subst e
  obtain⟨o,e,c,d⟩:=st
  exact⟨o,e,λv z=>by rw[d]at z;cases z⟩
 keep:=λi h h' st k=>st.at λo e=>k it (by simp) o e
 item:=by
  intro X hP hw hK hc i pins s σ H E I hf st hg
  subst hP hw hK
  obtain⟨xs,x,hq,hx⟩:=hg
  obtain⟨its,rv,p,hz⟩:=I.tuple hq
  obtain⟨u,hu,ru⟩:=rv.get hx
  obtain⟨f0,f1,f2,f3,f4,f5⟩:=hf it (by simp)
  refine wpAny_pyNext_tuple_item st (show s.heap.IsTuple a its.toArray from p) (x:=u) (by simpa using hu) λh' st' sb=>?_
  have I1:Inv X pins σ H {s with heap:=h'}:=I.turned (t':=s.toks) (λb o hb e=>(sb.2 b hb).trans e) f0 f1 f3 f4 f5
  obtain⟨o,e,c,d⟩:=id st'
  exact⟨u,rfl,ZnE (s:={s with heap:=h'}) e c d (by decide) ⟨x,H,I1,ru,⟨rfl,λys hy=>by rw[I.ZfD hy hq];exact hx⟩,st',λb hb=>(hf b hb).1⟩⟩
 done:=by
  intro X hP hw hK hc i pins s σ H E I hf st hg
  subst hP hw hK
  obtain⟨xs,hq,hx⟩:=hg
  obtain⟨its,rv,p,hz⟩:=I.tuple hq
  obtain⟨f0,f1,f2,f3,f4,f5⟩:=hf it (by simp)
  have hl:=rv.length
  exact wpAny_pyNext_tuple_end (I.ok.hd hc) st (show s.heap.IsTuple a its.toArray from p) (by simp;omega) λh' eb=>⟨rfl,I.turned (t':=s.toks) (λb o hb e=>eb b o hb e) f0 f1 f3 f4 f5⟩
 self:=λ_ _ _ _ _ st h=>wpAny_pyIter_tupleiter st h
theorem Zkl {P:Program}{w:World}{K:PySem.W.Frag}{tg:Expr} (it:Addr) (lo:Int) (n:Nat):Turn P w K tg (Itr lo n) [it] it (λi h=>IsRangeIter h it (lo+(i:Nat)*1) ((n:Int)-(i:Nat)) 1) where
 mem:=by simp
 obj:=λi h st b hb=>by
  have e:b=it:=by simpa using hb
  subst e
  exact⟨_,st,λv z=>by
   have z':Data.fields _=Data.cell v:=z
   cases z'⟩
 keep:=λi h h' st k=>k it (by simp) _ st
 item:=by
  intro X hP hw hK hc i pins s σ H E I hf st hg
  subst hP hw hK
  obtain⟨f0,f1,f2,f3,f4,f5⟩:=hf it (by simp)
  have W:=Walks.range (prog:=X.prog) (w:=X.w) (I.ok.hd hc) it lo 1 n
  refine W.item i s _ _ hg st λv h' tk hv st' kk=>?_
  obtain⟨t,rfl⟩:=hv
  have I1:Inv X pins σ H {s with heap:=h',toks:=tk}:=I.turned (λb o hb e=>kk b o (by simpa using hb) e) f0 f1 f3 f4 f5
  refine⟨_,rfl,ZnE (s:={s with heap:=h',toks:=tk}) (n:="range_iterator") st' rfl rfl (by decide) ⟨.int (lo+i),H,I1,⟨t,?_⟩,⟨rfl,rfl⟩,st',λb hb=>(hf b hb).1⟩⟩
  rw[Int.mul_one]
 done:=by
  intro X hP hw hK hc i pins s σ H E I hf st hg
  subst hP hw hK
  obtain⟨f0,f1,f2,f3,f4,f5⟩:=hf it (by simp)
  exact wpAny_pyNext_range_end (I.ok.hd hc) st (by have:n<=i:=hg;omega) λh' eb=>⟨rfl,I.turned (t':=s.toks) (λb o hb e=>eb b o hb e) f0 f1 f3 f4 f5⟩
 self:=λ_ _ _ _ _ st h=>wpAny_pyIter_rangeiter st h
section
variable {X:Cx}{tg:Expr}
noncomputable def iList (K:PySem.W.Frag) (tl:TE):TI:=fun σ H R=>tl σ H λx H1=>∃a,x=.ref a/\(∃xs,SqL K H1 a xs)/\R (Itl K a) H1
noncomputable def iTup (K:PySem.W.Frag) (tl:TE):TI:=fun σ H R=>tl σ H λx H1=>∃a,x=.ref a/\(∃xs,SqT K H1 a xs)/\R (Itt K a) H1
theorem ZgH {l:Expr}{tl:TE} (hl:PE X l tl):PI X tg l (iList X.K tl):=by
 intro pins s σ H R I h
 refine thn (hl pins s σ H _ I h) λv s1 ⟨x,H1,I1,r1,q1⟩=>?_
 obtain⟨a,e,⟨xs,hq⟩,q⟩:=q1
 subst e
 cases r1
 obtain⟨its,rv,p,hz⟩:=I1.list hq
 refine wpAny_pyIter_list p.isList ?_
 refine⟨s1.heap.objs.size,[s1.heap.objs.size],_,_,H1,rfl,I1.kept (t':=s1.toks) λb o e=>Yn _ e,ZlI a _,⟨_,Yt _ rfl,rfl,rfl⟩,λb hb=>?_,q⟩
 have e:b=s1.heap.objs.size:=by simpa using hb
 subst e
 exact I1.fpOk (Ye _) (I1.hok.fresh (Ye _))
theorem pi_tup {l:Expr}{tl:TE} (hl:PE X l tl):PI X tg l (iTup X.K tl):=by
 intro pins s σ H R I h
 refine thn (hl pins s σ H _ I h) λv s1 ⟨x,H1,I1,r1,q1⟩=>?_
 obtain⟨a,e,⟨xs,hq⟩,q⟩:=q1
 subst e
 cases r1
 obtain⟨its,rv,p,hz⟩:=I1.tuple hq
 refine wpAny_pyIter_tuple (show s1.heap.IsTuple a its.toArray from p) ?_
 refine⟨s1.heap.objs.size,[s1.heap.objs.size],_,_,H1,rfl,I1.kept (t':=s1.toks) λb o e=>Yn _ e,Zkk a _,⟨_,Yt _ rfl,rfl,rfl⟩,λb hb=>?_,q⟩
 have e:b=s1.heap.objs.size:=by simpa using hb
 subst e
 exact I1.fpOk (Ye _) (I1.hok.fresh (Ye _))
theorem Zjf {pins:List (Addr×Obj)}{σ:St}{H:Hp}{s:Shared}{R:It->Hp->Prop}{E:Value->Shared->Prop}{lo hi:Int}{t u v:Tok}{tk:Nat} (I:Inv X pins σ H s) (h1:-(2 ^ 62)<=lo) (h2:lo<2 ^ 62) (h3:-(2 ^ 62)<=hi) (h4:hi<2 ^ 62)
  (q:R (Itr lo (hi-lo).toNat) H):wpAny (model X.prog X.w) X.A (pyIter (.ref s.heap.objs.size)) (PIE X pins σ tg R) E {s with heap:=s.heap.push {cls:=.type "range",data:=.fields #[.int lo t,.int hi u,.int 1 v]},toks:=tk}:=by
 refine wpAny_pyIter_range (IsRange.new ..) (small_one h1 h2 h3 h4) ?_
 have I1:Inv X pins σ H {s with heap:=s.heap.push {cls:=.type "range",data:=.fields #[.int lo t,.int hi u,.int 1 v]},toks:=tk}:=I.kept λb o e=>Yn _ e
 refine⟨(s.heap.push {cls:=.type "range",data:=.fields #[.int lo t,.int hi u,.int 1 v]}).objs.size,[(s.heap.push {cls:=.type "range",data:=.fields #[.int lo t,.int hi u,.int 1 v]}).objs.size],_,_,H,rfl,
  I1.kept (t':=tk) λb o e=>Yn _ e,Zkl _ lo (hi-lo).toNat,?_,λb hb=>?_,q⟩
 ·have e1:lo+((0:Nat):Int)*1=lo:=by simp
  have e2:(((hi-lo).toNat:Nat):Int)-((0:Nat):Int)=Builtin.Range.rangeSize lo hi 1:=by rw[rangeSize_one];split<;>omega
  show IsRangeIter _ _ (lo+((0:Nat):Int)*1) ((((hi-lo).toNat:Nat):Int)-((0:Nat):Int)) 1
  rw[e1,e2]
  exact Yt _ rfl
 ·have e:b=(s.heap.push {cls:=.type "range",data:=.fields #[.int lo t,.int hi u,.int 1 v]}).objs.size:=by simpa using hb
  subst e
  exact I1.fpOk (Ye _) (I1.hok.fresh (Ye _))
noncomputable def iRng1 (ta:TA):TI:=fun σ H R=>ta σ H λvs H1=>∃j:Int,vs=[.int j]/\-(2 ^ 62)<=j/\j<2 ^ 62/\R (Itr 0 j.toNat) H1
noncomputable def iRng2 (ta:TA):TI:=fun σ H R=>ta σ H λvs H1=>∃i j:Int,vs=[.int i,.int j]/\(-(2 ^ 62)<=i/\i<2 ^ 62/\-(2 ^ 62)<=j/\j<2 ^ 62)/\R (Itr i (j-i).toNat) H1
theorem ZQ {a:Expr}{ta:TA}{p pos:Pos} (hg:Gl X "range") (hm:X.mg "range"=none) (ha:PA X [a] ta) (hs:starEach [a] X.env=[(false,eval a X.env)]:=by rfl):PI X tg (.Call (.Name "range" p) [a] [] pos) (iRng1 ta):=by
 intro pins s σ H R I h
 refine Call_ (Zd0 I hg hm boot_range (PyProof.Rows.callWith_type1 (thn (ha pos pins s σ H _ I h) λus s1 ⟨vs,H1,I1,r1,q1⟩=>?_) hs rfl))
 obtain⟨j,e,q1,q2,q⟩:=q1
 subst e
 cases r1 with
 |cons r rr =>
  cases rr
  obtain⟨t,rfl⟩:=r
  exact call_range_1 (Zjf I1 (by omega) (by omega) q1 q2 (by simpa using q))
theorem ZhS {a b:Expr}{ta:TA}{p pos:Pos} (hg:Gl X "range") (hm:X.mg "range"=none) (ha:PA X [a,b] ta) (hs:starEach [a,b] X.env=[(false,eval a X.env),(false,eval b X.env)]:=by rfl) (hs2:starEach [b] X.env=[(false,eval b X.env)]:=by rfl) :
  PI X tg (.Call (.Name "range" p) [a,b] [] pos) (iRng2 ta):=by
 intro pins s σ H R I h
 refine Call_ (Zd0 I hg hm boot_range (PyProof.Rows.callWith_type1 (thn (ha pos pins s σ H _ I h) λus s1 ⟨vs,H1,I1,r1,q1⟩=>?_) (by rw[hs,hs2]) (by rw[hs2];rfl)))
 obtain⟨i,j,e,⟨q1,q2,q3,q4⟩,q⟩:=q1
 subst e
 cases r1 with
 |cons r rr =>
  cases rr with
  |cons r' rr =>
   cases rr
   obtain⟨t,rfl⟩:=r
   obtain⟨t',rfl⟩:=r'
   exact call_range_2 (Zjf I1 q1 q2 q3 q4 q)
noncomputable def tFor (wi:TI) (g:TG) (tb:TS):TS:=λD σ H=>wi σ H λJ H1=>∃W:Nat->Nat->St->Hp->Prop,(∃m,W 0 m σ H1)/\∀i m σ H,W i m σ H ->
 (J.stop i H/\D.nx σ H)\/(J.go i H/\∃N:St->Hp->Prop,(∀σ' H',N σ' H'->∃m',m'<m/\W (i+1) m' σ' H')/\∀x H',J.yld i H x H'->g x σ H' fun σ2 H2=>tb {D with nx:=N,ct:=N,bk:=D.nx} σ2 H2)
noncomputable def Zd2 (fp:List Addr) (h:Heap):List (Addr×Obj):=fp.filterMap λb=>(h.get? b).map λo=>(b,o)
theorem Zdp {fp:List Addr}{h:Heap}{b:Addr}{o:Obj} (hb:b∈fp) (e:h.get? b=some o):(b,o)∈Zd2 fp h:=List.mem_filterMap.mpr ⟨b,hb,by rw[e];rfl⟩
theorem ZhT {fp:List Addr}{h:Heap}{p:Addr×Obj} (hp:p∈Zd2 fp h):p.1∈fp/\h.get? p.1=some p.2:=by
 obtain⟨b,hb,e⟩:=List.mem_filterMap.mp hp
 cases q:h.get? b with
 |none=>rw[q]at e;cases e
 |some o =>
  rw[q]at e
  have e':(b,o)=p:=Yo e
  subst e'
  exact⟨hb,q⟩
theorem Inv.pinned {pins:List (Addr×Obj)}{σ:St}{H:Hp}{s:Shared}{fp:List Addr} (I:Inv X pins σ H s) (hf:∀b∈fp,FpOk X pins H b) (ho:∀b∈fp,∃o,s.heap.get? b=some o/\∀v,o.data≠.cell v):Inv X (pins++Zd2 fp s.heap) σ H s :=
 I.Zff λp hp=>(Yz.mp hp).elim (λz=>I.pin p (Yv _ z)) λz=>by
  obtain⟨hb,e⟩:=ZhT z
  obtain⟨f0,f1,f2,_⟩:=hf p.1 hb
  obtain⟨o,e',d⟩:=ho p.1 hb
  rw[e]at e';cases e'
  exact⟨e,f0,f1,f2,d⟩
theorem Inv.Zd3 {pins pl:List (Addr×Obj)}{σ:St}{H:Hp}{s:Shared} (I:Inv X (pins++pl) σ H s):Inv X pins σ H s:=I.Zff λp hp=>I.pin p (Yv _ (YI _ hp))
theorem ZbW {iter:Expr}{body:List Stmt}{wi:TI}{g:TG}{tb:TS}{pos:Pos} (hp:PassesOwn (model X.prog X.w) X.A X.env X.xe) (hc:X.calm=true) (hi:PI X tg iter wi) (hg:PG X tg g) (hb:PSs X body tb)
  (hs:∀x,foldedSetIterable iter X.env x=pure x:=by intro _;rfl):PS X (.For tg iter body [] pos) (tFor wi g tb):=by
 intro pins s σ H D I h
 refine wpAny_For (thn (hi pins s σ H _ I h) λv s1 h1=>thn h1 λitv s2 h2=>?_) hs
 obtain⟨it,fp,tn,J,H2,e,I2,T,st2,f2,W,⟨m0,w0⟩,turn⟩:=h2
 subst e
 -- what stays true of the iterator's objects through the loop
 have stat:∀{H':Hp},(∀b∈fp,H' b=none)->∀b∈fp,FpOk X pins H' b:=λhn b hb=>⟨hn b hb,(f2 b hb).2⟩
 refine codeAny_forLoop_any (λn s'=>∃i σ' H',Inv X pins σ' H' s'/\tn i s'.heap/\(∀b∈fp,H' b=none)/\W i n σ' H') ?_ m0 ⟨0,σ,H2,I2,st2,λb hb=>(f2 b hb).1,w0⟩
 rintro n s3 ⟨i,σ3,H3,I3,st3,fr3,w3⟩
 rcases turn i n σ3 H3 w3 with⟨stop,qn⟩|⟨go,N,hN,step⟩
 ·refine wpAny_passesOwn hp (thn (T.done X rfl rfl rfl hc i pins s3 σ3 H3 X.xe I3 (stat fr3) st3 stop) λr s4 ⟨hr,I4⟩=>?_)
  subst hr
  exact wpAny_execs_nil ⟨σ3,H3,I4,qn⟩
 ·refine wpAny_passesOwn hp (thn (T.item X rfl rfl rfl hc i pins s3 σ3 H3 X.xe I3 (stat fr3) st3 go) λr s4 ⟨u,hr,h4⟩=>?_)
  subst hr
  refine wpAny_passesOwn hp (thn h4 λ_ s5 ⟨x,H5,I5,r5,y5,st5,fr5⟩=>?_)
  have I5':=I5.pinned (stat fr5) (T.obj _ _ st5)
  refine wpAny_passesOwn hp (thn (hg _ s5 σ3 H5 x u _ I5' r5 (step x H5 y5)) λ_ s6 ⟨σ6,H6,I6,q6⟩=>?_)
  refine wpAny_passesOwn hp (thn (hb _ s6 σ6 H6 _ I6 q6) λf s7 q7=>?_)
  have again:∀{σ7:St}{H7:Hp},Inv X (pins++Zd2 fp s5.heap) σ7 H7 s7->N σ7 H7->∃m,m<n/\∃i σ' H',Inv X pins σ' H' s7/\tn i s7.heap/\(∀b∈fp,H' b=none)/\W i m σ' H':=λ{σ7 H7} I7 n7=>by
   obtain⟨m',hm,w7⟩:=hN σ7 H7 n7
   refine⟨m',hm,i+1,σ7,H7,I7.Zd3,T.keep _ _ _ st5 λb hb o e=>(I7.pin (b,o) (Yv _ (Yv _ (Zdp hb e)))).1,λb hb=>?_,w7⟩
   obtain⟨o,e,d⟩:=T.obj _ _ st5 b hb
   exact(I7.pin (b,o) (Yv _ (Yv _ (Zdp hb e)))).2.1
  cases f with
  |next=>obtain⟨σ7,H7,I7,n7⟩:=q7;exact again I7 n7
  |cont=>obtain⟨σ7,H7,I7,n7⟩:=q7;exact again I7 n7
  |brk=>obtain⟨σ7,H7,I7,q7⟩:=q7;exact⟨σ7,H7,I7.Zd3,q7⟩
  |ret v=>obtain⟨x7,σ7,H7,I7,r7,q7⟩:=q7;exact⟨x7,σ7,H7,I7.Zd3,r7,q7⟩
end
theorem Zbw {lo:Int}{n:Nat}{g:TG}{tb:TS}{D:Ends}{σ:St}{H:Hp} (Pv:Nat->St->Hp->Prop) (h0:Pv 0 σ H)
  (hs:∀i σ H,i<n->Pv i σ H->g (.int (lo+i)) σ H fun σ2 H2=>tb {D with nx:=Pv (i+1),ct:=Pv (i+1),bk:=D.nx} σ2 H2) (hd:∀σ H,Pv n σ H->D.nx σ H) :
  ∃W:Nat->Nat->St->Hp->Prop,(∃m,W 0 m σ H)/\∀i m σ H,W i m σ H ->
   ((Itr lo n).stop i H/\D.nx σ H)\/((Itr lo n).go i H/\∃N:St->Hp->Prop,(∀σ' H',N σ' H'->∃m',m'<m/\W (i+1) m' σ' H')/\∀x H',(Itr lo n).yld i H x H'->g x σ H' fun σ2 H2=>tb {D with nx:=N,ct:=N,bk:=D.nx} σ2 H2):=by
 refine⟨λi m σ H=>m=n-i/\i<=n/\Pv i σ H,⟨n,by simp,Ys _,h0⟩,?_⟩
 rintro i m σ H ⟨rfl,hi,p⟩
 by_cases hlt:i<n
 ·refine .inr ⟨hlt,Pv (i+1),fun σ' H' p'=>⟨n-(i+1),by omega,rfl,hlt,p'⟩,λx H' y=>?_⟩
  obtain⟨e,y⟩:=y
  subst e y
  exact hs i σ _ hlt p
 ·have e:i=n:=by omega
  subst e
  exact .inl ⟨Ye _,hd σ H p⟩
noncomputable abbrev R2:=V->V->Hp->VK->Prop
noncomputable def OpR (X:Cx) (f:Value->Value->Sem Value) (r:R2):Prop :=
 ∀(pins:List (Addr×Obj)) (s:Shared) (σ:St) (H:Hp) (x y:V) (v u:Value) (Q:VK),Inv X pins σ H s->RelV x v->RelV y u->r x y H Q ->
  wpAny (model X.prog X.w) X.A (f v u) (EP X pins σ Q) X.xe s
noncomputable def UnR (X:Cx) (f:Value->Sem Value) (r:V->Hp->VK->Prop):Prop :=
 ∀(pins:List (Addr×Obj)) (s:Shared) (σ:St) (H:Hp) (x:V) (v:Value) (Q:VK),Inv X pins σ H s->RelV x v->r x H Q ->
  wpAny (model X.prog X.w) X.A (f v) (EP X pins σ Q) X.xe s
noncomputable def Zcz (X:Cx) (f:Value) (r:List V->Hp->VK->Prop):Prop :=
 ∀(pins:List (Addr×Obj)) (s:Shared) (σ:St) (H:Hp) (xs:List V) (us:List Value) (Q:VK),Inv X pins σ H s->Vals xs us->r xs H Q ->
  wpAny (model X.prog X.w) X.A (call f us) (EP X pins σ Q) X.xe s
noncomputable def tOp (r:R2) (ta tb:TE):TE:=fun σ H Q=>ta σ H λx H1=>tb σ H1 λy H2=>r x y H2 Q
noncomputable def tUn (r:V->Hp->VK->Prop) (ta:TE):TE:=fun σ H Q=>ta σ H λx H1=>r x H1 Q
noncomputable def rI (C:Int->Int->Prop) (g:Int->Int->V):R2:=λx y H Q=>∃i j,x=.int i/\y=.int j/\C i j/\Q (g i j) H
noncomputable def rI0 (g:Int->Int->V):R2:=λx y H Q=>∃i j,x=.int i/\y=.int j/\Q (g i j) H
noncomputable def rU (g:Int->V):V->Hp->VK->Prop:=λx H Q=>∃i,x=.int i/\Q (g i) H
section
variable {X:Cx}{a b c:Expr}{ta tb tc:TE}{pos:Pos}
theorem binT (ha:PE X a ta) (hb:PE X b tb) {pins:List (Addr×Obj)}{s:Shared}{σ:St}{H:Hp}{R:V->V->Hp->Prop} (I:Inv X pins σ H s)
  (h:ta σ H λx H1=>tb σ H1 λy H2=>R x y H2) {Q:Value->Shared->Prop}{f:Value->Value->Sem Value}
  (hf:∀v u s2 x y H2,Inv X pins σ H2 s2->RelV x v->RelV y u->R x y H2->wpAny (model X.prog X.w) X.A (f v u) Q X.xe s2) :
  wpAny (model X.prog X.w) X.A (eval a X.env) (λv s₁=>wpAny (model X.prog X.w) X.A (eval b X.env) (λu s₂=>wpAny (model X.prog X.w) X.A (f v u) Q X.xe s₂) X.xe s₁) X.xe s:=by
 refine thn (ha pins s σ H _ I h) λv s1 ⟨x,H1,I1,r1,q1⟩=>?_
 refine thn (hb pins s1 σ H1 _ I1 q1) λu s2 ⟨y,H2,I2,r2,q2⟩=>?_
 exact hf v u s2 x y H2 I2 r1 r2 q2
theorem Zo {op:Operator}{r:R2} (ho:OpR X (binaryOp op) r) (ha:PE X a ta) (hb:PE X b tb):PE X (.BinOp a op b pos) (tOp r ta tb):=by
 intro pins s σ H Q I h
 exact wpAny_BinOp (binT ha hb I h λv u s2 x y H2 I2 rx ry q=>ho pins s2 σ H2 x y v u Q I2 rx ry q)
theorem ZgO {op:UnaryOp}{r:V->Hp->VK->Prop} (ho:UnR X (unaryOp op) r) (ha:PE X a ta):PE X (.UnaryOp op a pos) (tUn r ta):=by
 intro pins s σ H Q I h
 exact UnaryOp_ (thn (ha pins s σ H _ I h) λv s1 ⟨x,H1,I1,r1,q1⟩=>ho pins s1 σ H1 x v Q I1 r1 q1)
theorem opI {f:Value->Value->Sem Value}{C:Int->Int->Prop}{g:Int->Int->Int}
  (rule:∀(i j:Int) (t u:Tok) (s:Shared) (Q:Value->Shared->Prop) (E:Value->Shared->Prop),C i j->Q (.int (g i j) s.toks) {s with toks:=s.toks+1}->wpAny (model X.prog X.w) X.A (f (.int i t) (.int j u)) Q E s) :
  OpR X f (rI C λi j=>.int (g i j)):=by
 intro pins s σ H x y v u Q I rx ry h
 obtain⟨i,j,rfl,rfl,hc,q⟩:=h
 obtain⟨t,rfl⟩:=rx
 obtain⟨t',rfl⟩:=ry
 exact rule i j t t' s _ _ hc ⟨.int (g i j),H,I.tok _,⟨_,rfl⟩,q⟩
theorem opI0 {f:Value->Value->Sem Value}{g:Int->Int->Int}
  (rule:∀(i j:Int) (t u:Tok) (s:Shared) (Q:Value->Shared->Prop) (E:Value->Shared->Prop),Q (.int (g i j) s.toks) {s with toks:=s.toks+1}->wpAny (model X.prog X.w) X.A (f (.int i t) (.int j u)) Q E s) :
  OpR X f (rI0 λi j=>.int (g i j)):=by
 intro pins s σ H x y v u Q I rx ry h
 obtain⟨i,j,rfl,rfl,q⟩:=h
 obtain⟨t,rfl⟩:=rx
 obtain⟨t',rfl⟩:=ry
 exact rule i j t t' s _ _ ⟨.int (g i j),H,I.tok _,⟨_,rfl⟩,q⟩
theorem opB0 {f:Value->Value->Sem Value}{g:Int->Int->Bool}
  (rule:∀(i j:Int) (t u:Tok) (s:Shared) (Q:Value->Shared->Prop) (E:Value->Shared->Prop),Q (.bool (g i j)) s->wpAny (model X.prog X.w) X.A (f (.int i t) (.int j u)) Q E s) :
  OpR X f (rI0 λi j=>.bl (g i j)):=by
 intro pins s σ H x y v u Q I rx ry h
 obtain⟨i,j,rfl,rfl,q⟩:=h
 obtain⟨t,rfl⟩:=rx
 obtain⟨t',rfl⟩:=ry
 exact rule i j t t' s _ _ ⟨.bl (g i j),H,I,rfl,q⟩
noncomputable def Zkm (i j:Int):Prop:=0<=j/\j<=1000000/\i.natAbs<2 ^ 64
theorem ZU:OpR X (binaryOp .Add) (rI0 λi j=>.int (i+j)):=opI0 λ_ _ _ _ _ _ _ q=>add_int q
theorem ZbX:OpR X (binaryOp .Sub) (rI0 λi j=>.int (i-j)):=opI0 λ_ _ _ _ _ _ _ q=>sub_int q
theorem Zd4:OpR X (binaryOp .Mod) (rI (λ_ j=>0<j) λi j=>.int (i % j)):=opI λi j _ _ _ _ _ hc q=>by
 have h1:(0:Int)<j:=hc
 exact mod_int' (by omega) (by rw[Int.fmod_eq_emod_of_nonneg i (by omega)];exact q)
theorem ZeU:OpR X (binaryOp .Pow) (rI Zkm λi j=>.int (i ^ j.toNat)):=opI λ_ _ _ _ _ _ _ hc q=>pow_int_small hc.1 hc.2.1 hc.2.2 q
theorem unI {f:Value->Sem Value}{g:Int->Int}
  (rule:∀(i:Int) (t:Tok) (s:Shared) (Q:Value->Shared->Prop) (E:Value->Shared->Prop),Q (.int (g i) s.toks) {s with toks:=s.toks+1}->wpAny (model X.prog X.w) X.A (f (.int i t)) Q E s) :
  UnR X f (rU λi=>.int (g i)):=by
 intro pins s σ H x v Q I rx h
 obtain⟨i,rfl,q⟩:=h
 obtain⟨t,rfl⟩:=rx
 exact rule i t s _ _ ⟨.int (g i),H,I.tok _,⟨_,rfl⟩,q⟩
theorem ZeV:UnR X (unaryOp .USub) (rU λi=>.int (-i)):=unI λ_ _ _ _ _ q=>neg_int q
end
noncomputable def Zjg:V->V->Bool
 |.non,.non=>true|.non,.int _=>true|.int _,.non=>true|.non,.bl _=>true|.bl _,.non=>true|.non,.str _=>true|.str _,.non=>true
 |.int _,.int _=>true|.bl _,.bl _=>true|.str _,.str _=>true|.byt _,.byt _=>true
 |.int _,.str _=>true|.str _,.int _=>true|.bl _,.str _=>true|.str _,.bl _=>true
 |_,_=>false
noncomputable def rEq:R2:=λx y H Q=>Zjg x y=true/\Q (.bl (decide (x=y))) H
noncomputable def rNe:R2:=λx y H Q=>Zjg x y=true/\Q (.bl (!decide (x=y))) H
theorem Zk5 {i j:Int}:decide (V.int i=V.int j)=(i==j):=by
 rw[Bool.eq_iff_iff]
 simp
theorem ZnF {i j:Bool}:decide (V.bl i=V.bl j)=(i==j):=by
 rw[Bool.eq_iff_iff]
 simp
theorem Zk6 {i j:Str}:decide (V.str i=V.str j)=(i==j):=by
 rw[Bool.eq_iff_iff]
 simp
theorem Zk7 {i j:Array UInt8}:decide (V.byt i=V.byt j)=(i.toList==j.toList):=by
 rw[Bool.eq_iff_iff]
 cases i
 cases j
 simp
section
variable {X:Cx}{a b c:Expr}{ta tb tc:TE}{pos:Pos}
theorem ZD {pins:List (Addr×Obj)}{σ:St}{H:Hp}{s:Shared}{Q:VK}{k k':Bool} (I:Inv X pins σ H s) (q:Q (.bl k) H) (e:k=k'):EP X pins σ Q (.bool k') s:=by
 subst e
 exact⟨.bl k,H,I,rfl,q⟩
theorem Zf9:OpR X (compareOp .Eq) rEq:=by
 intro pins s σ H x y v u Q I rx ry h
 obtain⟨hs,q⟩:=h
 cases x with
 |non =>
  cases rx
  cases y with
  |non=>cases ry;exact PySem.EqNone.eq_none_none (ZD I q (by simp))
  |bl j=>cases ry;exact PySem.EqNone.eq_none_bool (ZD I q (by simp))
  |int j=>obtain⟨t',rfl⟩:=ry;exact PySem.EqNone.eq_none_int (ZD I q (by simp))
  |str j=>obtain⟨t',rfl⟩:=ry;exact PySem.EqNone.eq_none_str (ZD I q (by simp))
  |_=>exact absurd (show false=true from hs) Yr
 |bl i =>
  cases rx
  cases y with
  |non=>cases ry;exact PySem.EqNone.eq_bool_none (ZD I q (by simp))
  |bl j=>cases ry;exact eq_bool (ZD I q ZnF)
  |str j=>obtain⟨t',rfl⟩:=ry;exact PySem.EqMixed.eq_bool_str (ZD I q (by simp))
  |_=>exact absurd (show false=true from hs) Yr
 |int i =>
  obtain⟨t,rfl⟩:=rx
  cases y with
  |non=>cases ry;exact PySem.EqNone.eq_int_none (ZD I q (by simp))
  |int j=>obtain⟨t',rfl⟩:=ry;exact eq_int (ZD I q Zk5)
  |str j=>obtain⟨t',rfl⟩:=ry;exact PySem.EqMixed.eq_int_str (ZD I q (by simp))
  |_=>exact absurd (show false=true from hs) Yr
 |str i =>
  obtain⟨t,rfl⟩:=rx
  cases y with
  |non=>cases ry;exact PySem.EqNone.eq_str_none (ZD I q (by simp))
  |bl j=>cases ry;exact PySem.EqMixed.eq_str_bool (ZD I q (by simp))
  |int j=>obtain⟨t',rfl⟩:=ry;exact PySem.EqMixed.eq_str_int (ZD I q (by simp))
  |str j=>obtain⟨t',rfl⟩:=ry;exact eq_str (ZD I q Zk6)
  |_=>exact absurd (show false=true from hs) Yr
 |byt i =>
  obtain⟨t,rfl⟩:=rx
  cases y with
  |byt j=>obtain⟨t',rfl⟩:=ry;exact PySem.W.eq_bytes (ZD I q Zk7)
  |_=>exact absurd (show false=true from hs) Yr
 |_=>cases y<;>exact absurd (show false=true from hs) Yr
theorem op_ne:OpR X (compareOp .NotEq) rNe:=by
 intro pins s σ H x y v u Q I rx ry h
 obtain⟨hs,q⟩:=h
 cases x with
 |non =>
  cases rx
  cases y with
  |non=>cases ry;exact PySem.EqNone.ne_none_none (ZD I q (by simp))
  |bl j=>cases ry;exact PySem.EqNone.ne_none_bool (ZD I q (by simp))
  |int j=>obtain⟨t',rfl⟩:=ry;exact PySem.EqNone.ne_none_int (ZD I q (by simp))
  |str j=>obtain⟨t',rfl⟩:=ry;exact PySem.EqNone.ne_none_str (ZD I q (by simp))
  |_=>exact absurd (show false=true from hs) Yr
 |bl i =>
  cases rx
  cases y with
  |non=>cases ry;exact PySem.EqNone.ne_bool_none (ZD I q (by simp))
  |bl j=>cases ry;exact ne_bool (ZD I q (congrArg not ZnF))
  |str j=>obtain⟨t',rfl⟩:=ry;exact PySem.EqMixed.ne_bool_str (ZD I q (by simp))
  |_=>exact absurd (show false=true from hs) Yr
 |int i =>
  obtain⟨t,rfl⟩:=rx
  cases y with
  |non=>cases ry;exact PySem.EqNone.ne_int_none (ZD I q (by simp))
  |int j=>obtain⟨t',rfl⟩:=ry;exact ne_int (ZD I q (congrArg not Zk5))
  |str j=>obtain⟨t',rfl⟩:=ry;exact PySem.EqMixed.ne_int_str (ZD I q (by simp))
  |_=>exact absurd (show false=true from hs) Yr
 |str i =>
  obtain⟨t,rfl⟩:=rx
  cases y with
  |non=>cases ry;exact PySem.EqNone.ne_str_none (ZD I q (by simp))
  |bl j=>cases ry;exact PySem.EqMixed.ne_str_bool (ZD I q (by simp))
  |int j=>obtain⟨t',rfl⟩:=ry;exact PySem.EqMixed.ne_str_int (ZD I q (by simp))
  |str j=>obtain⟨t',rfl⟩:=ry;exact ne_str (ZD I q (congrArg not Zk6))
  |_=>exact absurd (show false=true from hs) Yr
 |byt i =>
  obtain⟨t,rfl⟩:=rx
  cases y with
  |byt j=>obtain⟨t',rfl⟩:=ry;exact PySem.W.ne_bytes (ZD I q (congrArg not Zk7))
  |_=>exact absurd (show false=true from hs) Yr
 |_=>cases y<;>exact absurd (show false=true from hs) Yr
theorem Zga:OpR X (compareOp .Lt) (rI0 λi j=>.bl (decide (i<j))):=opB0 λ_ _ _ _ _ _ _ q=>lt_int q
theorem ZnG:OpR X (compareOp .LtE) (rI0 λi j=>.bl (decide (i<=j))):=opB0 λ_ _ _ _ _ _ _ q=>le_int q
theorem ZeL:OpR X (compareOp .Gt) (rI0 λi j=>.bl (decide (j<i))):=opB0 λ_ _ _ _ _ _ _ q=>gt_int q
theorem op_ge:OpR X (compareOp .GtE) (rI0 λi j=>.bl (decide (j<=i))):=opB0 λ_ _ _ _ _ _ _ q=>ge_int q
theorem op_isN:OpR X (compareOp .Is) (λx y H Q=>y=.non/\Q (.bl (decide (x=.non))) H):=by
 intro pins s σ H x y v u Q I rx ry h
 obtain⟨rfl,q⟩:=h
 cases ry
 refine is_none_gen (ZD I q ?_)
 cases x<;>first
  |(cases rx;rfl)
  |(obtain⟨t,rfl⟩:=rx;rfl)
theorem Zk8:OpR X (compareOp .IsNot) (λx y H Q=>y=.non/\Q (.bl (!decide (x=.non))) H):=by
 intro pins s σ H x y v u Q I rx ry h
 obtain⟨rfl,q⟩:=h
 cases ry
 refine isnot_none_gen (ZD I q ?_)
 cases x<;>first
  |(cases rx;rfl)
  |(obtain⟨t,rfl⟩:=rx;rfl)
theorem Zt (b:Expr) {op:CmpOp} (h:op≠.In:=by decide) (h2:op≠.NotIn:=by decide):behindInMarks op b=false:=by
 have e1:(op==CmpOp.In)=false:=by cases op<;>first|rfl|exact absurd rfl h
 have e2:(op==CmpOp.NotIn)=false:=by cases op<;>first|rfl|exact absurd rfl h2
 cases b<;>simp[behindInMarks,e1,e2]
theorem Zk9 {op:CmpOp}{r:R2} (ho:OpR X (compareOp op) r) (ha:PE X a ta) (hb:PE X b tb) (hm:behindInMarks op b=false):PE X (.Compare a [op] [b] pos) (tOp r ta tb):=by
 intro pins s σ H Q I h
 exact wpAny_Compare1 (binT ha hb I h λv u s2 x y H2 I2 rx ry q=>ho pins s2 σ H2 x y v u Q I2 rx ry q) hm
noncomputable def tTest (t:TE):TT:=fun σ H Q=>t σ H λx H'=>∃k,x=.bl k/\Q k H'
theorem Zm {op:CmpOp}{r:R2} (ho:OpR X (compareOp op) r) (ha:PE X a ta) (hb:PE X b tb) (hm:behindInMarks op b=false):PT X (.Compare a [op] [b] pos) (tTest (tOp r ta tb)):=by
 intro pins s σ H Q I h
 refine wpAny_isTrue_Compare1 (thn (ha pins s σ H _ I h) λv s1 ⟨x,H1,I1,r1,q1⟩=>thn (hb pins s1 σ H1 _ I1 q1) λu s2 ⟨y,H2,I2,r2,q2⟩ =>
  thn (ho pins s2 σ H2 x y v u _ I2 r1 r2 q2) λc s3 ⟨z,H3,I3,r3,k,e,q3⟩=>?_) hm
 subst e
 cases r3
 exact wpAny_truthy_bool ⟨H3,I3,q3⟩
noncomputable def tChain (r r':R2) (ta tb tc:TE):TE:=fun σ H Q=>ta σ H λx H1=>tb σ H1 λy H2=>r x y H2 λz H3=>∃k,z=.bl k /\
 (if k=true then tc σ H3 λw' H4=>r' y w' H4 Q else Q (.bl false) H3)
theorem ZnH {op op':CmpOp}{r r':R2} (ho:OpR X (compareOp op) r) (ho':OpR X (compareOp op') r') (ha:PE X a ta) (hb:PE X b tb) (hc:PE X c tc)
  (hm:lastMarks [op,op'] [b,c]=false:=by with_unfolding_all rfl):PT X (.Compare a [op,op'] [b,c] pos) (tTest (tChain r r' ta tb tc)):=by
 intro pins s σ H Q I h
 refine isTrue_chain (thn (ha pins s σ H _ I h) λv s1 ⟨x,H1,I1,r1,q1⟩=>test_link (thn (hb pins s1 σ H1 _ I1 q1) λu s2 ⟨y,H2,I2,r2,q2⟩ =>
  thn (ho pins s2 σ H2 x y v u _ I2 r1 r2 q2) λd s3 ⟨z,H3,I3,r3,k,e,q3⟩=>?_)) hm
 subst e
 cases r3
 refine wpAny_truthy_bool ?_
 cases k with
 |false =>
  obtain⟨k',e',q'⟩:=q3
  cases e'
  exact ite_ff ⟨H3,I3,q'⟩
 |true =>
  refine ite_tt (test_last (thn (hc pins s3 σ H3 _ I3 q3) λw' s4 ⟨z',H4,I4,r4,q4⟩=>thn (ho' pins s4 σ H4 y z' u w' _ I4 r2 r4 q4) λd' s5 ⟨z2,H5,I5,r5,k2,e2,q5⟩=>?_))
  subst e2
  cases r5
  exact wpAny_truthy_bool ⟨H5,I5,q5⟩
theorem Ziw:(sizeLine:Nat)<2 ^ 63:=by rw[sizeLine_eq];decide
theorem vals1 {x:V}{us:List Value} (r:Vals [x] us):∃u,us=[u]/\RelV x u:=by
 cases r with
 |cons r1 r2=>cases r2;exact⟨_,rfl,r1⟩
theorem vals2 {x y:V}{us:List Value} (r:Vals [x,y] us):∃u w',us=[u,w']/\RelV x u/\RelV y w':=by
 cases r with
 |cons r1 r2 =>
  cases r2 with
  |cons r3 r4=>cases r4;exact⟨_,_,rfl,r1,r3⟩
theorem ZlJ (hc:X.calm=true):Zcz X (.builtin "max") (λxs H Q=>∃i j,xs=[.int i,.int j]/\Q (.int (if j>i then j else i)) H):=by
 intro pins s σ H xs us Q I r h
 obtain⟨i,j,rfl,q⟩:=h
 obtain⟨u,w',rfl,⟨t,rfl⟩,⟨t',rfl⟩⟩:=vals2 r
 refine max_two_ints (I.ok.hd hc) λh' tk k=>⟨_,H,I.kept k,?_,q⟩
 by_cases hj:j>i
 ·rw[Yd hj,Yd hj];exact⟨_,rfl⟩
 ·rw[Yb hj,Yb hj];exact⟨_,rfl⟩
theorem ZhU (hc:X.calm=true):Zcz X (.builtin "min") (λxs H Q=>∃i j,xs=[.int i,.int j]/\Q (.int (if j<i then j else i)) H):=by
 intro pins s σ H xs us Q I r h
 obtain⟨i,j,rfl,q⟩:=h
 obtain⟨u,w',rfl,⟨t,rfl⟩,⟨t',rfl⟩⟩:=vals2 r
 refine min_two_ints (I.ok.hd hc) λh' tk k=>⟨_,H,I.kept k,?_,q⟩
 by_cases hj:j<i
 ·rw[Yd hj,Yd hj];exact⟨_,rfl⟩
 ·rw[Yb hj,Yb hj];exact⟨_,rfl⟩
end
structure ObjM (h:Heap) (x dx C:Addr) (mA:Str->Option Value):Prop where
 obj:h.get? x=some (PySem.W.instObj C dx)
 ns:h.Ns1 dx mA
 ne:dx≠x
theorem ZlK {h:Heap}{dx:Addr}{mA:Str->Option Value} (n:h.Ns1 dx mA):∃od,h.get? dx=some od/\∀name,PySem.W.lookIn name od=some (mA name):=by
 obtain⟨o,es,ep,ho,hd,hk,_,hm⟩:=n
 refine⟨o,ho,λname=>?_⟩
 have e:=hm name
 unfold nsFind findBy at e
 rw[<-Array.find?_toList]at e
 unfold PySem.W.lookIn
 rw[hd]
 dsimp only
 split
 ·rename_i y q
  rw[q]at e
  exact congrArg some e
 ·rename_i q
  rw[q]at e
  have a:es.toList.any (·.refKey)=false:=by
   rw[List.any_eq_false]
   intro y hy
   obtain⟨z,t,hkey⟩:=hk y (Array.mem_toList_iff.mp hy)
   simp[DictEntry.refKey,hkey]
  have a':¬ es.toList.any (·.refKey)=true:=by rw[a];exact Yr
  rw[Yb a']
  exact congrArg some e
theorem ObjM.look {h:Heap}{x dx C:Addr}{mA:Str->Option Value} (I:ObjM h x dx C mA):∃od,PySem.W.InstAt h x (PySem.W.instObj C dx) C (some od)/\∀name,PySem.W.lookIn name od=some (mA name) :=
 let ⟨od,ho,hl⟩:=ZlK I.ns
 ⟨od,⟨I.obj,rfl,rfl,ho⟩,hl⟩
theorem ZgK.some_of {v:V}{o:Option Value} (r:ZgK (some v) o):∃u,o=some u/\RelV v u:=by
 cases o with
 |none=>exact(show False from r).elim
 |some u=>exact⟨u,rfl,r⟩
section
variable {P:Program}{w:World}{H H':Hp}{h h':Heap}{a C dx:Addr}{fs fs':List (Str×V)}
theorem Zpq (hok:HOk P w H h) (e:H a=some (.ins C dx fs)):∃mA,ObjM h a dx C mA/\(∀f,ZgK (fs.lookup f) (mA f))/\PySem.Within mA (fs.map (·.1))/\fs.length<=1000/\H dx=some (.own a):=by
 obtain⟨d,z,ne,ob,mA,n,r,q⟩:=(show ZO P w H h a (.ins C dx fs)from hok a _ e)
 exact⟨mA,⟨ob,n,ne⟩,r,q,z,d⟩
end
structure Cls (K:PySem.W.Frag) (C:Addr):Prop where
 pg:PySem.W.plainGet K C Str.empty=true
 hd:PySem.W.hasDictIn K C=true
 po:PySem.W.plainOver K C=true
 sa:PySem.W.findIn K (.ref C) "__setattr__"=some (some (.builtin "object.__setattr__"))
theorem Cls.get {K:PySem.W.Frag}{C:Addr} (c:Cls K C) (f:Str):PySem.W.plainGet K C f=true:=c.pg
section
variable {X:Cx}{pins:List (Addr×Obj)}{σ:St}{H:Hp}{s:Shared}{A:Around}{E:Value->Shared->Prop}{Q:Value->Shared->Prop}{c:Value}{b:Bool}
inductive TyOf (K:PySem.W.Frag) (H:Hp):V->Value->Prop where
 |non:TyOf K H .non (.type "NoneType")
 |bl (x:Bool):TyOf K H (.bl x) (.type "bool")
 |int (i:Int):TyOf K H (.int i) (.type "int")
 |str (x:Str):TyOf K H (.str x) (.type "str")
 |flt (x:UInt64):TyOf K H (.flt x) (.type "float")
 |lst {a:Addr}{xs:List V} (e:H a=some (.lst xs)):TyOf K H (.ref a) (.type "list")
 |frz {a:Addr}{o:Obj}{xs:List V} (e:H a=some (.frz o (.lst xs))):TyOf K H (.ref a) (.type "list")
 |tup {a:Addr}{xs:List V} (e:H a=some (.tup xs)):TyOf K H (.ref a) (.type "tuple")
 |dK {a:Addr}{kvs:List (Key×V)} (e:H a=some (.dK kvs)):TyOf K H (.ref a) (.type "dict")
 |dT {a:Addr}{kvs:List (List Key×V)} (e:H a=some (.dT kvs)):TyOf K H (.ref a) (.type "dict")
 |ins {a C dx:Addr}{fs:List (Str×V)} (e:H a=some (.ins C dx fs)) (cl:Cls K C) (ha:PySem.W.findIn K (.ref C) "__class__"=some (some (.builtin "object.__class__")))
   (hn:PySem.W.specialIn K (.builtin "object.__class__") "__get__"=some (some (.builtin "getset_descriptor.__get__"))) (htk:PySem.W.takesIn K (.builtin "object.__class__")=some true)
   (hm:PySem.W.mroIn K C (.type "object")=some true):TyOf K H (.ref a) (.ref C)
theorem ZlL {x:V}{u t:Value} (I:Inv X pins σ H s) (rx:RelV x u) (ty:TyOf X.K H x t) (e:PySem.W.kitOne X.K t c=some b) (h:∀tk,Q (.bool b) {s with toks:=tk}) :
  wpAny (model X.prog X.w) A (call (.builtin "isinstance") [u,c]) Q E s:=by
 cases ty with
 |non=>cases(show u=Value.none from rx);exact PySem.W.kia_one PySem.W.kitx_none I.kIn True.intro e (λz=>nomatch z) h
 |bl y=>cases(show u=Value.bool y from rx);exact PySem.W.kia_one PySem.W.kitx_bool I.kIn True.intro e (λz=>nomatch z) h
 |int i=>obtain⟨t,q⟩:=(show ∃t,u=Value.int i t from rx);cases q;exact PySem.W.kia_one PySem.W.kitx_int I.kIn True.intro e (λz=>nomatch z) h
 |str y=>obtain⟨t,q⟩:=(show ∃t,u=Value.str y t from rx);cases q;exact PySem.W.kia_one PySem.W.kitx_str I.kIn True.intro e (λz=>nomatch z) h
 |flt y=>obtain⟨t,q⟩:=(show ∃t,u=Value.float y t from rx);cases q;exact PySem.W.kia_one PySem.W.kitx_float I.kIn True.intro e (λz=>nomatch z) h
 |@lst a xs ea =>
  cases(show u=Value.ref a from rx)
  obtain⟨_,_,n,_,h1⟩:=(show ZO X.prog X.w H s.heap a (.lst xs)from I.hok a _ ea)
  exact PySem.W.kia_one PySem.W.kitx_list I.kIn ⟨_,h1,rfl⟩ e (λz=>nomatch z) h
 |@frz a ob xs ea =>
  cases(show u=Value.ref a from rx)
  obtain⟨_,_,_,n,_,h1⟩:=(show ZO X.prog X.w H s.heap a (.frz ob (.lst xs))from I.hok a _ ea)
  exact PySem.W.kia_one PySem.W.kitx_list I.kIn ⟨_,h1,rfl⟩ e (λz=>nomatch z) h
 |@tup a xs ea =>
  cases(show u=Value.ref a from rx)
  obtain⟨_,_,_,p⟩:=(show ZO X.prog X.w H s.heap a (.tup xs)from I.hok a _ ea)
  obtain⟨o,h1,h2,_⟩:=p
  exact PySem.W.kia_one PySem.W.kitx_tuple I.kIn ⟨o,h1,h2⟩ e (λz=>nomatch z) h
 |@dK a kvs ea =>
  cases(show u=Value.ref a from rx)
  obtain⟨_,_,vs,_,p⟩:=(show ZO X.prog X.w H s.heap a (.dK kvs)from I.hok a _ ea)
  obtain⟨o,es,ep,h1,h2,_⟩:=p
  exact PySem.W.kia_one PySem.W.kitx_dict I.kIn ⟨o,h1,h2.1⟩ e (λz=>nomatch z) h
 |@dT a kvs ea =>
  cases(show u=Value.ref a from rx)
  obtain⟨_,_,xs,_,o,es,ep,h1,h2,_⟩:=(show ZO X.prog X.w H s.heap a (.dT kvs)from I.hok a _ ea)
  exact PySem.W.kia_one PySem.W.kitx_dict I.kIn ⟨o,h1,h2.1⟩ e (λz=>nomatch z) h
 |@ins a C dx fs ea cl ha hn htk hm =>
  cases(show u=Value.ref a from rx)
  obtain⟨mA,O,_⟩:=Zpq I.hok ea
  obtain⟨od,J,_⟩:=O.look
  exact PySem.W.kia_one (PySem.W.kitx_own (cl.get _) cl.hd ha hn htk hm) I.kIn J e (λz=>nomatch z) h
end
structure Room (k:Nat) (A:Around):Prop where
 hd:A.handled=none
 dp:A.depth+3*k+5<recursionLimit
 un:A.units+16*k+200<cLine
theorem Room.mono {j k:Nat}{A:Around} (r:Room k A) (h:j<=k):Room j A:=⟨r.hd,by have:=r.dp;omega,by have:=r.un;omega⟩
theorem Room.deeper {k:Nat}{A:Around} (r:Room (k+1) A) (env:Env):Room k (A.deeper env) :=
 ⟨r.hd,by have:=r.dp;show A.depth+1+3*k+5 < _;omega,by have:=r.un;show A.units+3+16*k+200 < _;omega⟩
theorem Room.depth {k:Nat}{A:Around} (r:Room k A):A.depth<recursionLimit:=by have:=r.dp;omega
theorem Room.units {k:Nat}{A:Around} (r:Room k A):A.units+64<cLine:=by have:=r.un;omega
noncomputable def tNil:TA:=λ_ H Q=>Q [] H
noncomputable def tCons (ta:TE) (tr:TA):TA:=fun σ H Q=>ta σ H λx H1=>tr σ H1 λxs H2=>Q (x::xs) H2
section
variable {X:Cx}{e:Expr}{es:List Expr}{te:TE}{t:TA}{pos:Pos}
theorem Zb:PA X [] tNil:=λ_ _ _ _ H Q I h=>Calls.spliced_nil ⟨[],H,I,.nil,h⟩
theorem Za (ha:PE X e te) (hr:PA X es t) (hs:starEach (e::es) X.env=(false,eval e X.env)::starEach es X.env:=by rfl):PA X (e::es) (tCons te t):=by
 intro pos pins s σ H Q I h
 rw[hs]
 show wpAny _ _ (spliced ((false,eval e X.env)::backTo pos (starEach es X.env))) _ _ s
 refine Calls.spliced_cons (thn (ha pins s σ H _ I h) λu s1 ⟨x,H1,I1,r1,q1⟩=>?_)
 exact thn (hr pos pins s1 σ H1 _ I1 q1) λus s2 ⟨xs,H2,I2,r2,q2⟩=>⟨x::xs,H2,I2,.cons r1 r2,q2⟩
noncomputable def tTup (t:TA):TE:=fun σ H Q=>t σ H λxs H1=>xs.length<=sizeLine/\∀p,H1 p=none->Q (.ref p) (upd H1 p (.tup xs))
noncomputable def tLst (t:TA):TE:=fun σ H Q=>t σ H λxs H1=>xs.length<=sizeLine/\∀p,H1 p=none->Q (.ref p) (upd H1 p (.lst xs))
theorem Zd5 {x1} (h:PA X es t):PE X (.Tuple es x1 pos) (tTup t):=by
 intro pins s σ H Q I hq
 refine wpAny_Tuple_spliced (thn (h pos pins s σ H _ I hq) λus s1 ⟨xs,H1,I1,r,z,q⟩=>⟨by rw[<-r.length];exact z,?_⟩)
 have hf:H1 s1.heap.objs.size=none:=I1.hok.fresh (Ye _)
 refine⟨.ref s1.heap.objs.size,upd H1 s1.heap.objs.size (.tup xs),I1.laid (t':=s1.toks) (λb u e=>Yn _ e) (Ye _) ?_,rfl,q _ hf⟩
 exact⟨z,us,r,⟨_,Yt _ rfl,rfl,_,rfl⟩⟩
theorem ZaM (h:PA X es t):PE X (.List es pos) (tLst t):=by
 intro pins s σ H Q I hq
 refine wpAny_List_spliced (thn (h pos pins s σ H _ I hq) λus s1 ⟨xs,H1,I1,r,z,q⟩=>⟨by rw[<-r.length];exact z,?_⟩)
 have hf:H1 s1.heap.objs.size=none:=I1.hok.fresh (Ye _)
 refine⟨.ref s1.heap.objs.size,upd H1 s1.heap.objs.size (.lst xs),I1.laid (t':=s1.toks) (λb u e=>Yn _ e) (Ye _) ?_,rfl,q _ hf⟩
 exact⟨z,us,0,r,Yt _ rfl⟩
end
noncomputable abbrev Sp:=List V->Hp->VK->XK->Prop
noncomputable abbrev CXT:=List Env->Hp->Shared->XK->Value->Shared->Prop
structure Env0 (P:Program) (w:World) (K:PySem.W.Frag) (mg:Str->Option Value) (base:Heap) (A:Around) (outer:List Env) (s:Shared) (H:Hp):Prop where
 frames:A.frames=some outer
 mod:Mod K mg base
 bs:∀b o,base.get? b=some o->s.heap.get? b=some o/\H b=none
 bsz:base.objs.size<=s.heap.objs.size
 funs:s.heap.FunFrames base outer
 frf:∀b∈frs outer,H b=none
 hok:HOk P w H s.heap
 bare:AllBare s.gens
noncomputable def CE (outer:List Env) (P:Program) (w:World) (H:Hp) (s:Shared) (Q:VK) (u:Value) (s':Shared):Prop :=
 ∃v H',s'.os=s.os/\AllBare s'.gens/\Un (frs outer) [] H H' s.heap s'.heap/\HOk P w H' s'.heap/\RelV v u/\Q v H'
noncomputable def CR (CX:CXT) (outer:List Env) (P:Program) (w:World) (H:Hp) (s:Shared) (Q:VK) (E:XK) (r:Result) (s':Shared):Prop :=
 match r with
 |.ok (.ret u)=>CE outer P w H s Q u s'
 |.ok _=>False
 |.error e=>CX outer H s E e s'
structure FnOk (P:Program) (w:World) (K:PySem.W.Frag) (mg:Str->Option Value) (base:Heap) (CX:CXT) (k:Nat) (f:Addr) (fd:FuncData) (ps:List Str) (sp:Sp):Prop where
 len:∀vs H Q E,sp vs H Q E->vs.length=ps.length
 run:∀(A:Around) (outer:List Env) (s:Shared) (H:Hp) (args:Args) (us:List Value) (vs:List V) (Q:VK) (E:XK),Room k A->Env0 P w K mg base A outer s H->BindsTo s fd args (ps.zip us)->Vals vs us->sp vs H Q E ->
  codeAny (model P w) A (.call (.ref f) args) (CR CX outer P w H s Q E) s
section
variable {X:Cx}{pins:List (Addr×Obj)}{σ:St}{H:Hp}{s s':Shared}
theorem Inv.env0 (I:Inv X pins σ H s):Env0 X.prog X.w X.K X.mg X.base X.A X.stack s H :=
 ⟨I.ok.frames,I.ok.mod,I.bs,Yj I.ok.bsz I.sz,I.stack,I.Ziq,I.hok,I.bare⟩
theorem Inv.after {Q:VK}{u:Value} (I:Inv X pins σ H s) (h:CE X.stack X.prog X.w H s Q u s'):EP X pins σ Q u s':=by
 obtain⟨v,H',os,bare,un,hok,r,q⟩:=h
 obtain⟨hh,g,d,t,os'⟩:=s'
 obtain rfl:os'=s.os:=os
 exact⟨v,H',I.call (h':=hh) (g':=g) (d':=d) (t':=t) (ch:=[]) un hok bare (λb z=>absurd z (by simp)),r,q⟩
end
noncomputable def tCall (sp:Sp) (dvs:List V) (E:XK) (t:TA):TE:=fun σ H Q=>t σ H λvs H1=>sp (vs++dvs) H1 Q E
noncomputable def Binds (K:PySem.W.Frag) (fd:FuncData) (ps:List Str) (ds:List Value):Prop :=
 ∀(s:Shared) (us:List Value),K.In s.heap->(us++ds).length=ps.length->BindsTo s fd ⟨us,[]⟩ (ps.zip (us++ds))
theorem Binds.all {K:PySem.W.Frag}{fd:FuncData}{ps:List Str} (h:∀us:List Value,us.length=ps.length->bindArgs fd ⟨us,[]⟩=pure (ps.zip us)):Binds K fd ps []:=λs us _ hl=>by
 rw[List.append_nil]at hl⊢
 exact .of_eq (h us hl)
noncomputable def Passes (CX:CXT) (X:Cx) (E:XK):Prop:=∀(pins:List (Addr×Obj)) (σ:St) (H:Hp) (s:Shared) (e:Value) (s':Shared),Inv X pins σ H s->CX X.stack H s E e s'->X.xe e s'
section
variable {X:Cx}{CX:CXT}{k:Nat}{f C:Addr}{fd:FuncData}{ps:List Str}{sp:Sp}{dvs:List V}{ds:List Value}{E:XK}{x m:Str}{p pos apos:Pos}{e o:Expr}{es:List Expr}{ta:TE}{t:TA}
theorem run_fn {pins:List (Addr×Obj)}{σ:St}{H:Hp}{s:Shared}{Q:VK}{us:List Value}{vs:List V} (F:FnOk X.prog X.w X.K X.mg X.base CX k f fd ps sp) (hr:Room k X.A) (hb:Binds X.K fd ps ds) (hd:Vals dvs ds) (hx:Passes CX X E)
  (I:Inv X pins σ H s) (r:Vals vs us) (h:sp (vs++dvs) H Q E):wpAny (model X.prog X.w) X.A (call (.ref f) us) (EP X pins σ Q) X.xe s:=by
 have r2:Vals (vs++dvs) (us++ds):=r.append hd
 have hl:(us++ds).length=ps.length:=by rw[<-r2.length];exact F.len _ _ _ _ h
 refine wpAny_call (codeAny_mono (F.run X.A X.stack s H ⟨us,[]⟩ (us++ds) (vs++dvs) Q E hr I.env0 (hb s us I.kIn hl) r2 h) λr s' hq=>?_)
 cases r with
 |error e=>exact hx pins σ H s e s' I hq
 |ok fl =>
  cases fl with
  |ret u=>exact I.after hq
  |next=>exact False.elim hq
  |brk=>exact False.elim hq
  |cont=>exact False.elim hq
theorem Zla (F:FnOk X.prog X.w X.K X.mg X.base CX k f fd ps sp) (hr:Room k X.A) (hg:Gl X x) (hm:X.mg x=some (.ref f)) (hk:PySem.W.keepIn X.K (.ref f)=true) (hb:Binds X.K fd ps ds) (hd:Vals dvs ds) (hx:Passes CX X E)
  (ha:PA X (e::es) t) (hdb:(x==("__debug__":Str))=false:=by decide) (he:starEach (e::es) X.env=(false,eval e X.env)::starEach es X.env:=by rfl) (hpl:(backTo pos (starEach es X.env)).any (·.1)=false:=by rfl) :
  PE X (.Call (.Name x p) (e::es) [] pos) (tCall sp dvs E t):=by
 intro pins s σ H Q I h
 refine wpAny_Call_Name_kw (Zir I hg hm ?_ hdb)
 refine PySem.W.callWith_K (h₀:=X.base) I.ok.mod.kin hk (thn (ha pos pins s σ H _ I h) λus s1 ⟨vs,H1,I1,r,q⟩=>⟨I1.kIn,?_⟩) he hpl
 exact run_fn F hr hb hd hx I1 r q
end
noncomputable def PK (X:Cx) (kws:List Keyword) (t:TA):Prop :=
 ∀(pos:Pos) (pins:List (Addr×Obj)) (s:Shared) (σ:St) (H:Hp) (Q:List V->Hp->Prop),Inv X pins σ H s->t σ H Q->wpAny (model X.prog X.w) X.A (evalAll ((backToKw pos (keywordEach kws X.env)).map (·.2))) (AP X pins σ Q) X.xe s
section
variable {X:Cx}{CX:CXT}{k:Nat}{f C:Addr}{fd:FuncData}{ps ks:List Str}{sp:Sp}{E:XK}{x m:Str}{p pos apos kpos:Pos}{e o:Expr}{es:List Expr}{kws:List Keyword}{te ta:TE}{t tk:TA}{nm:Option Str}
theorem ZnI:PK X [] tNil:=λ_ _ _ _ H Q I h=>wpAny_evalAll_nil ⟨[],H,I,.nil,h⟩
theorem Zlb (ha:PE X e te) (hr:PK X kws t):PK X (⟨nm,e,kpos⟩::kws) (tCons te t):=by
 intro pos pins s σ H Q I h
 show wpAny _ _ (evalAll ((do let v <-eval e X.env;standAt pos;pure v)::(backToKw pos (keywordEach kws X.env)).map (·.2))) _ _ s
 refine wpAny_evalAll_cons (Ya (thn (ha pins s σ H _ I h) λu s1 ⟨x,H1,I1,r1,q1⟩=>Ya (wpAny_standAt (Yc ?_))))
 exact thn (hr pos pins s1 σ H1 _ I1 q1) λus s2 ⟨xs,H2,I2,r2,q2⟩=>⟨x::xs,H2,I2,.cons r1 r2,q2⟩
variable {g:List Value->List Value->List Value}{gV:List V->List V->List V}
end
structure FnScope (N P:List Str) (sc:Scope):Prop where
 kind:sc.kind=.function
 co:sc.isCoroutine=false
 gen:sc.isGenerator=false
 nd:N.Nodup
 pre:N.take P.length=P
 par:∀x∈P,sc.names.lookup x=some .local\/sc.names.lookup x=some .cell
 nofree:∀y∈sc.names,y.2≠.free
theorem ZhV {kindOf:Str->Option NameKind}{x:Str}:∀{binds:List (Str×Value)}{m:Str->Option Value},(∀v,(x,v)∉binds)->bindL kindOf binds m x=m x
 |[],_,_=>rfl
 |(n,v)::r,m,h=>by
  unfold bindL
  rw[ZhV λw hw=>h w (YR _ hw)]
  split
  ·have:x≠n:=by rintro rfl;exact h v YX
   simp[this]
  ·rfl
theorem ZhW {kindOf:Str->Option NameKind}{x:Str}:∀{binds:List (Str×Value)}{m:Str->Option Value},(∀v,(x,v)∉binds)->bindC kindOf binds m x=m x
 |[],_,_=>rfl
 |(n,v)::r,m,h=>by
  unfold bindC
  rw[ZhW λw hw=>h w (YR _ hw)]
  split
  ·rfl
  ·have:x≠n:=by rintro rfl;exact h v YX
   simp[this]
theorem ZhX {kindOf:Str->Option NameKind}{x:Str}{v:Value}:∀{P:List Str}{vs:List Value}{i:Nat}{m:Str->Option Value},P.Nodup->P[i]?=some x->vs[i]?=some v->kindOf x=some .local ->
  bindL kindOf (P.zip vs) m x=some v
 |[],_,_,_,_,h,_,_=>by simp at h
 |_::_,[],_,_,_,_,h,_=>by simp at h
 |p::P,w::vs,0,m,nd,h1,h2,hk=>by
  simp at h1 h2;subst h1;subst h2
  show bindL kindOf ((p,w)::P.zip vs) m p=_
  unfold bindL
  rw[ZhV λv hv=>(List.nodup_cons.mp nd).1 (List.of_mem_zip hv).1,Yd hk]
  simp
 |p::P,w::vs,i+1,m,nd,h1,h2,hk=>by
  show bindL kindOf ((p,w)::P.zip vs) m x=_
  unfold bindL
  exact ZhX (i:=i) (List.nodup_cons.mp nd).2 (by simpa using h1) (by simpa using h2) hk
theorem ZhY {kindOf:Str->Option NameKind}{x:Str}{v:Value}:∀{P:List Str}{vs:List Value}{i:Nat}{m:Str->Option Value},P.Nodup->P[i]?=some x->vs[i]?=some v->kindOf x≠some .local ->
  bindC kindOf (P.zip vs) m x=some v
 |[],_,_,_,_,h,_,_=>by simp at h
 |_::_,[],_,_,_,_,h,_=>by simp at h
 |p::P,w::vs,0,m,nd,h1,h2,hk=>by
  simp at h1 h2;subst h1;subst h2
  show bindC kindOf ((p,w)::P.zip vs) m p=_
  unfold bindC
  rw[ZhW λv hv=>(List.nodup_cons.mp nd).1 (List.of_mem_zip hv).1,Yb hk]
  simp
 |p::P,w::vs,i+1,m,nd,h1,h2,hk=>by
  show bindC kindOf ((p,w)::P.zip vs) m x=_
  unfold bindC
  exact ZhY (i:=i) (List.nodup_cons.mp nd).2 (by simpa using h1) (by simpa using h2) hk
noncomputable def start (N:List Str) (vs:List V):St:=vs.map some++List.replicate (N.length-vs.length) none
noncomputable def ZeW (CX:CXT) (P:Program) (w:World) (K:PySem.W.Frag) (mg:Str->Option Value) (base:Heap) (N:List Str) (qual:Str) (scope:Scope) (f:Addr) (cd:Value) (A:Around) (outer:List Env) (s:Shared) (H:Hp) (E:XK):Cx where
 prog:=P
 w:=w
 K:=K
 mg:=mg
 base:=base
 A:=A.deeper (envOfC qual scope s.heap.objs.size f cd)
 N:=N
 s₀:=s
 H₀:=H
 env:=envOfC qual scope s.heap.objs.size f cd
 outer:=outer
 stack:=envOfC qual scope s.heap.objs.size f cd::outer
 ex:=[]
 calm:=true
 fn:=λ_=>true
 pn:=[]
 xe:=λe s'=>wpAny (model P w) (A.deeper (envOfC qual scope s.heap.objs.size f cd)) (leaving (envOfC qual scope s.heap.objs.size f cd) e) (λ_ s''=>CX outer H s E e s'') (λe' s''=>CX outer H s E e' s'') s'
theorem Zjh {sc:Scope}{n:Nat}{x:Str} (h:sc.names.lookup x=some .cell):∃c,(cellsFrom n sc.names []).lookup x=some c:=by
 have q:=PySem.W.cellsFrom_some sc.names n [] (.inl h)
 exact Option.isSome_iff_exists.mp q
theorem ZlM {CX:CXT}{P:Program}{w:World}{K:PySem.W.Frag}{mg:Str->Option Value}{base:Heap}{N ps:List Str}{qual:Str}{scope:Scope}{f:Addr}{cd:Value}{A:Around}{outer:List Env}{s s1:Shared}{H:Hp}{E:XK}{us:List Value}{vs:List V}
  (S:FnScope N ps scope) (hd:A.handled=none) (e0:Env0 P w K mg base A outer s H) (hl:vs.length=ps.length) (r:Vals vs us)
  (x:InCallC s s.heap.objs.size (bindL (envOfC qual scope s.heap.objs.size f cd).kindOf (ps.zip us) λ_=>none) (cellsFrom (s.heap.objs.size+1) scope.names []) (bindC (envOfC qual scope s.heap.objs.size f cd).kindOf (ps.zip us) λ_=>none) s1) :
  Inv (ZeW CX P w K mg base N qual scope f cd A outer s H E) [] (start N vs) H s1:=by
 have hpl:ps.length<=N.length:=by have:=congrArg List.length S.pre;rw[YJ]at this;omega
 obtain⟨h1,tk,rfl,hk⟩:=x.done
 have noA:∀b:Addr,b∉(ZeW CX P w K mg base N qual scope f cd A outer s H E).ex:=λb z=>absurd (show b∈([]:List Addr)from z) (by simp)
 refine⟨⟨e0.mod,S.kind,rfl,rfl,Ye _,λy z c h1 h2=>?_,λy hy=>?_,λy c _ h=>?_,λ_=>hd,Around.frames_deeper e0.frames,.inr ⟨rfl,rfl⟩,λb z=>absurd z (noA b),e0.bs,e0.bsz,λb _ _=>noA b,λb z=>absurd z (noA b),e0.funs,e0.frf⟩,
  rfl,e0.bare,Un.kept hk,⟨_,x.toInCall.ns,λi y v h1 h2 h3=>?_⟩,λy c h=>⟨_,x.cell y c h⟩,e0.hok.fresh (Ye _),λy c h=>?_,λp hp=>absurd (show p∈([]:List (Addr×Obj))from hp) (by simp),e0.hok.kept hk,?_⟩
 ·exact name_of_addr x.apart (PySem.mem_of_lookup h1) (PySem.mem_of_lookup h2)
 ·have hy:scope.names.lookup y=some .cell\/scope.names.lookup y=some .free:=hy
  rcases hy with hy|hy
  ·exact Zjh hy
  ·exact absurd rfl (S.nofree _ (PySem.mem_of_lookup hy))
 ·exact YN (x.above y c (PySem.mem_of_lookup h))
 ·have hi:i<vs.length:=by
   unfold start at h2
   by_cases hi:i<vs.length
   ·exact hi
   ·rw[YY (by simpa using hi)]at h2
    rw[List.getElem?_replicate]at h2
    split at h2<;>cases h2
  have ha:vs[i]?=some v:=by
   unfold start at h2
   rw[YZ (by simpa using hi),Yw]at h2
   cases e:vs[i]? with
   |none=>rw[e]at h2;cases h2
   |some a=>rw[e]at h2;cases h2;rfl
  obtain⟨u,hu,rv⟩:=r.get ha
  have hp:ps[i]?=some y:=by
   rw[<-S.pre,List.getElem?_take_of_lt (by omega)];exact h1
  have ndP:ps.Nodup:=by rw[<-S.pre];exact S.nd.sublist (List.take_sublist _ _)
  refine⟨u,rv,?_⟩
  rcases S.par y (List.mem_of_getElem? hp)with k|k
  ·exact .inl ⟨k,ZhX ndP hp hu k⟩
  ·obtain⟨c,e⟩:=Zjh (n:=s.heap.objs.size+1) k
   refine .inr ⟨.inl k,c,e,?_⟩
   have q:=x.cell y c e
   rw[ZhY ndP hp hu (by show scope.names.lookup y≠_;rw[k];decide)]at q
   exact q
 ·exact e0.hok.fresh (YN (x.above y c (PySem.mem_of_lookup h)))
 ·unfold start
  show _=N.length
  rw[Yy,Yg,List.length_replicate]
  omega
theorem ZnJ {CX:CXT}{P:Program}{w:World}{K:PySem.W.Frag}{mg:Str->Option Value}{base:Heap}{k:Nat}{f:Addr}{name qual:Str}{params:Arguments}{body:List Stmt}{scope:Scope}{dV kV doc pm cdv ct oc:Value}{an od:Option Addr}
  {osl:Array (Option Value)}{N ps:List Str}{sp:Sp} (lk:K.lookup f=some ⟨oc,od,.func (PySem.W.fnOf name qual params body scope dV kV doc pm an cdv ct),osl⟩) (hcd:PySem.W.codeIn K cdv qual=true) (S:FnScope N ps scope)
  (len:∀vs H Q E,sp vs H Q E->vs.length=ps.length)
  (hbody:∀(A:Around) (outer:List Env) (s:Shared) (H:Hp) (vs:List V) (Q:VK) (E:XK),Room k (A.deeper (envOfC qual scope s.heap.objs.size f cdv))->sp vs H Q E ->
   ∃t,PSs (ZeW CX P w K mg base N qual scope f cdv A outer s H E) body t/\t {nx:=λ_ H'=>Q .non H',rt:=Q} (start N vs) H) :
  FnOk P w K mg base CX (k+1) f (PySem.W.fnOf name qual params body scope dV kV doc pm an cdv ct) ps sp:=by
 refine⟨len,λA outer s H args us vs Q E hr e0 hb r hsp=>?_⟩
 have hl:=len _ _ _ _ hsp
 have KX:K.In s.heap:=e0.mod.kin.keeps λb o e=>(e0.bs b o e).1
 have lim:s.heap.NoLimit:=e0.mod.nolimit.keeps λb o e=>(e0.bs b o e).1
 have hkind:∀y∈ps.zip us,scope.names.lookup y.1=some .local\/(scope.names.lookup y.1=some .cell/\((cellsFrom (s.heap.objs.size+1) scope.names []).lookup y.1).isSome=true):=λ⟨n,v⟩ hy=>by
  rcases S.par n (List.of_mem_zip hy).1 with q|q
  ·exact .inl q
  ·exact .inr ⟨q,PySem.W.cellsFrom_some _ _ _ (.inl q)⟩
 refine codeAny_call_function hr.depth (KX _ _ lk) rfl S.co S.gen rfl (PySem.W.codeRec_of KX hcd) (hb _ _ _ _ ?_)
 refine wpAny_newFunctionEnv_cells S.kind hkind λenv he s1 x=>?_
 subst he
 refine⟨lim.keeps x.toInCall.keep,codeAny_func ?_⟩
 obtain⟨t,ht,hq⟩:=hbody A outer s H vs Q E (hr.deeper _) hsp
 have I:Inv (ZeW CX P w K mg base N qual scope f cdv A outer s H E) [] (start N vs) H s1:=ZlM S hr.hd e0 hl r x
 refine YG (ht [] s1 (start N vs) H _ I hq) (λfl s' hs=>?_) λe s' hs=>hs
 have fin:∀{σ':St}{H':Hp}{v:V}{u:Value},Inv (ZeW CX P w K mg base N qual scope f cdv A outer s H E) [] σ' H' s'->RelV v u->Q v H'->CE outer P w H s Q u s' :=
  λ{σ' H' v u} J rv q=>⟨v,H',J.os,J.bare,J.base,J.hok,rv,q⟩
 cases fl with
 |ret u =>
  obtain⟨v,σ',H',J,rv,q⟩:=hs
  exact fin J rv q
 |next =>
  obtain⟨σ',H',J,q⟩:=hs
  exact fin (v:=V.non) (u:=Value.none) J rfl q
 |brk =>
  obtain⟨_,_,_,q⟩:=hs
  exact False.elim q
 |cont =>
  obtain⟨_,_,_,q⟩:=hs
  exact False.elim q
section
variable {X:Cx}{x:Str}{p pos:Pos}{e:Expr}{es:List Expr}{t:TA}{id T:String}{r:List V->Hp->VK->Prop}
noncomputable def tCB (r:List V->Hp->VK->Prop) (t:TA):TE:=fun σ H Q=>t σ H λvs H1=>r vs H1 Q
theorem Zp (hc:Zcz X (.builtin id) r) (hg:Gl X x) (hm:X.mg x=none) (hv:bootBuiltins x=some (.builtin id)) (ha:PA X (e::es) t) (hn:x≠"__name__":=by decide) (hdb:(x==("__debug__":Str))=false:=by decide)
  (he:starEach (e::es) X.env=(false,eval e X.env)::starEach es X.env:=by rfl) (hpl:(backTo pos (starEach es X.env)).any (·.1)=false:=by rfl):PE X (.Call (.Name x p) (e::es) [] pos) (tCB r t):=by
 intro pins s σ H Q I h
 refine wpAny_Call_Name_kw (Zd0 I hg hm hv ?_ hn hdb)
 exact PyProof.Rows.callWith_builtin1 (thn (ha pos pins s σ H _ I h) λus s1 ⟨vs,H1,I1,r1,q1⟩=>hc pins s1 σ H1 vs us Q I1 r1 q1) he hpl
theorem ZaA (hc:Zcz X (.type T) r) (hg:Gl X x) (hm:X.mg x=none) (hv:bootBuiltins x=some (.type T)) (ha:PA X (e::es) t) (hn:x≠"__name__":=by decide) (hdb:(x==("__debug__":Str))=false:=by decide)
  (he:starEach (e::es) X.env=(false,eval e X.env)::starEach es X.env:=by rfl) (hpl:(backTo pos (starEach es X.env)).any (·.1)=false:=by rfl):PE X (.Call (.Name x p) (e::es) [] pos) (tCB r t):=by
 intro pins s σ H Q I h
 refine wpAny_Call_Name_kw (Zd0 I hg hm hv ?_ hn hdb)
 exact PyProof.Rows.callWith_type1 (thn (ha pos pins s σ H _ I h) λus s1 ⟨vs,H1,I1,r1,q1⟩=>hc pins s1 σ H1 vs us Q I1 r1 q1) he hpl
end
end L2
namespace HT
open PySem PyProof.Rows
section
open PySem.SeqAt
open PySem.AutoSeq1 (wpAny_loadPart')
open PySem.MeetsSeq PySem.MeetsSeq2 PySem.MeetsSeq3
end
section
variable {prog:Program}{w:World}{A:Around}{E:Value->Shared->Prop}{s:Shared}
theorem Zpr {t b:Addr}{vs ws:List Value}{Q:Value->Shared->Prop} (ht:IsTup s.heap t vs.toArray) (hb:IsTup s.heap b ws.toArray) (hv:vs≠[])
  (h1:ws=[]->Q (.ref t) s) (h2:ws≠[]->Q (.ref s.heap.objs.size) {s with heap:=s.heap.push {cls:=.type "tuple",data:=.seq (vs++ws).toArray}})
  (hsz:vs.length+ws.length<=sizeLine):wpAny (model prog w) A (binaryOp .Add (.ref t) (.ref b)) Q E s:=by
 obtain⟨⟨cls,dd,data,sl⟩,ho,hc,n,hd⟩:=id ht
 obtain⟨⟨cls2,dd2,data2,sl2⟩,ho2,hc2,n2,hd2⟩:=id hb
 simp only at hc hd hc2 hd2
 subst hc hd hc2 hd2
 have e:vs.toArray++ws.toArray=(vs++ws).toArray:=by simp
 by_cases hw:ws=[]
 ·exact concat_meets ⟨_,ho,rfl⟩ ⟨_,ho2,rfl⟩ noFill_tuple_add seq_tuple_add PySem.F.slot_tuple_add PySem.F.entry_tuple_add (PySem.F.args_tuple_add_2 _ _)
   (tuple_addW1 t b vs.toArray ws.toArray n n2 dd dd2 sl sl2 (by simpa using hv) (by simp[hw])) ⟨ho,ho2,h1 hw⟩
 ·refine concat_meets ⟨_,ho,rfl⟩ ⟨_,ho2,rfl⟩ noFill_tuple_add seq_tuple_add PySem.F.slot_tuple_add PySem.F.entry_tuple_add (PySem.F.args_tuple_add_2 _ _)
   (tuple_addW2 t b vs.toArray ws.toArray n n2 dd dd2 sl sl2 (by simpa using hv) (by simpa using hw) (by rw[Yl,Yl];exact hsz)) ⟨ho,ho2,?_⟩
  rw[e]
  exact h2 hw
noncomputable def sIx (n d:Nat):Option Int->Nat
 |none=>d
 |some v=>if v<0 then (v+(n:Int)).toNat else min v.toNat n
theorem Zlc (n d k:Nat):sIx n d (some (k:Int))=min k n:=by
 show(if (k:Int)<0 then ((k:Int)+(n:Int)).toNat else min (k:Int).toNat n)=min k n
 rw[Yb (by omega),Y4]
theorem sIx_le (n d:Nat) (hd:d<=n) (o:Option Int):sIx n d o<=n:=by
 cases o with
 |none=>exact hd
 |some v =>
  show(if v<0 then (v+(n:Int)).toNat else min v.toNat n)<=n
  by_cases hv:v<0
  ·rw[Yd hv];omega
  ·rw[Yb hv];exact Nat.min_le_right _ _
theorem Zld (v:Int) (n d:Nat):(if v<0 then max (v+(n:Int)) 0 else min v (n:Int))=((sIx n d (some v):Nat):Int):=by
 show(if v<0 then max (v+(n:Int)) 0 else min v (n:Int))=(((if v<0 then (v+(n:Int)).toNat else min v.toNat n):Nat):Int)
 by_cases hv:v<0
 ·simp only[Yd hv];omega
 ·simp only[Yb hv];omega
theorem Zkn (lo hi:Option Int) (n:Nat):Builtin.Slice.sliceAdjust lo hi 1 (n:Int)=(((sIx n 0 lo:Nat):Int),((sIx n n hi:Nat):Int)):=by
 have h1:¬ ((1:Int)<0):=by omega
 unfold Builtin.Slice.sliceAdjust
 simp only[h1,if_false]
 refine Prod.ext ?_ ?_
 ·cases lo with
  |none=>rfl
  |some v=>exact Zld v n 0
 ·cases hi with
  |none=>rfl
  |some v=>exact Zld v n n
theorem Zko (i j:Nat):Builtin.Slice.slicePlaces (i:Int) (j:Int) 1=j-i:=by
 unfold Builtin.Slice.slicePlaces
 have h1:(1:Int)>0:=by omega
 simp only[h1,if_true,Int.ediv_one]
 split<;>omega
theorem ZgP {v:Value}{o:Option Int}{Q:Option Int->Shared->Prop} (p:IsPart v o) (h:Q o s):wpAny (model prog w) A (Builtin.Slice.slicePartIndex v) Q E s:=by
 cases p with
 |none=>exact slicePart_none h
 |int i t=>exact slicePart_int h
theorem ZfE {sl:Addr}{vl vu:Value}{lo hi:Option Int}{n:Nat}{Q:Int×Int×Nat->Shared->Prop} (hs:s.heap.IsSliceOf sl vl vu .none) (pl:IsPart vl lo) (pu:IsPart vu hi)
  (h:Q (((sIx n 0 lo:Nat):Int),1,sIx n n hi-sIx n 0 lo) s):wpAny (model prog w) A (Builtin.Slice.sliceApplied (.ref sl) (pure (n:Int))) Q E s:=by
 obtain⟨os,hos,hcs,hds⟩:=id hs
 unfold Builtin.Slice.sliceApplied Builtin.Slice.sliceFields
 refine Ya (Ya (wpAny_field hos hds (x:=vl) rfl (Ya (wpAny_field hos hds (x:=vu) rfl (Ya (wpAny_field hos hds (x:=.none) rfl (Yc ?_)))))))
 refine Ya (slicePart_none ?_)
 show wpAny _ _ (if ((1:Int)==0)=true then _ else _) _ _ s
 rw[Yb (by decide)]
 refine Ya (ZgP pl (Ya (ZgP pu (Ya (Yc ?_)))))
 show wpAny _ _ (match Builtin.Slice.sliceAdjust lo hi 1 (n:Int)with|(lo,hi)=>pure (lo,(1:Int),Builtin.Slice.slicePlaces lo hi 1)) _ _ s
 rw[Zkn lo hi n]
 show wpAny _ _ (pure (((sIx n 0 lo:Nat):Int),(1:Int),Builtin.Slice.slicePlaces ((sIx n 0 lo:Nat):Int) ((sIx n n hi:Nat):Int) 1)) _ _ s
 rw[Zko]
 exact Yc h
theorem ZnK (xs:Array Value) (i k:Nat):((List.range k).filterMap λ(m:Nat)=>xs[((i:Int)+(m:Int)*1).toNat]?).toArray=((xs.toList.drop i).take k).toArray:=by
 have e:(λ(m:Nat)=>xs[((i:Int)+(m:Int)*1).toNat]?)=λm=>xs[i+m]?:=by
  funext m
  have:((i:Int)+(m:Int)*1).toNat=i+m:=by omega
  rw[this]
 rw[e]
 have:=pick_run xs i k
 rw[List.filterMap_map]at this
 have e2:((λx=>xs[x]?) ∘ λx=>i+x)=λm=>xs[i+m]?:=rfl
 rw[e2]at this
 rw[this]
theorem Zfg {t sl:Addr}{items:Array Value}{vl vu:Value}{lo hi:Option Int}{Q:Value->Shared->Prop} (ht:IsTup s.heap t items) (hs:s.heap.IsSliceOf sl vl vu .none) (pl:IsPart vl lo) (pu:IsPart vu hi)
  (hw:¬ (sIx items.size 0 lo=0/\sIx items.size items.size hi=items.size))
  (h:Q (.ref s.heap.objs.size) {s with heap:=s.heap.push {cls:=.type "tuple",data:=.seq ((items.toList.drop (sIx items.size 0 lo)).take (sIx items.size items.size hi-sIx items.size 0 lo)).toArray}})
  (hsz:items.size<=sizeLine):wpAny (model prog w) A (getItem (.ref t) (.ref sl)) Q E s:=by
 have htake:sizeOk (.seq ((items.toList.drop (sIx items.size 0 lo)).take (sIx items.size items.size hi-sIx items.size 0 lo)).toArray):=by
  show((items.toList.drop (sIx items.size 0 lo)).take (sIx items.size items.size hi-sIx items.size 0 lo)).toArray.size<=sizeLine
  rw[Yl,YJ,YT,YS]
  omega
 have hj:sIx items.size items.size hi<=items.size:=sIx_le _ _ (Ye _) hi
 obtain⟨os,hos,hcs,hds⟩:=id hs
 have hTs:s.TypeIs (.ref sl) "slice":=⟨os,hos,hcs⟩
 unfold getItem
 try with_reducible refine wpAny_holding ?_
 first|refine Ya (Yc ?_)|skip
 refine Ya (wpAny_sequenceKey ht.typeIs (by decide) ?_)
 refine Ya (wpAny_callSpecial?_slot (name:=Str.ofString "__getitem__") ht.typeIs PyProof.Rows.slot_tuple_getitem
  (wpAny_call_entry PyProof.Rows.slot_tuple_getitem ht.typeIs entry_tuple_getitem ?_ (args_tuple_getitem _ _)))
 show wpAny _ _ (Builtin.Tuple.tupleItemsOf (.ref t) >>= _) _ _ s
 refine Ya (tupleItemsOf_ ht ?_)
 refine Ya (wpAny_typeOf hTs ?_)
 rw[Yd (by decide)]
 refine Ya (ZfE hs pl pu ?_)
 have hno:¬ ((((sIx items.size 0 lo:Nat):Int)==0&&(1:Int)==1&&(sIx items.size items.size hi-sIx items.size 0 lo)==items.size)=true):=by
  intro q
  rw[Bool.and_eq_true,Bool.and_eq_true]at q
  have q1:((sIx items.size 0 lo:Nat):Int)=0:=eq_of_beq q.1.1
  have q2:sIx items.size items.size hi-sIx items.size 0 lo=items.size:=eq_of_beq q.2
  exact hw ⟨by omega,by omega⟩
 show wpAny _ _ (if (((sIx items.size 0 lo:Nat):Int)==0&&(1:Int)==1&&(sIx items.size items.size hi-sIx items.size 0 lo)==items.size)=true then _ else _) _ _ s
 rw[Yb hno,ZnK]
 first
  |exact Ya (m:=Builtin.Tuple.tupleExact _) (wpAny_newObj_type (Yc ⟨_,rfl,Yc h⟩) htake)
  |exact Ya (m:=Builtin.Tuple.tupleExact _) (wpAny_newObj_type (Ya (Yc (Yc ⟨_,rfl,Yc h⟩))) htake)
  |exact Ya (Ya (m:=Builtin.Tuple.tupleExact _) (wpAny_newObj_type (Yc (Yc ⟨_,rfl,Yc h⟩)) htake))
  |exact Ya (Ya (m:=Builtin.Tuple.tupleExact _) (wpAny_newObj_type (Yc ⟨_,rfl,Yc h⟩) htake))
end
end HT
namespace L2
open PySem PySem.Spec PyProof.Rows
noncomputable abbrev TO:=St->Hp->(Option Int->Hp->Prop)->Prop
noncomputable def PO (X:Cx) (e:Option Expr) (t:TO):Prop :=
 ∀(pins:List (Addr×Obj)) (s:Shared) (σ:St) (H:Hp) (Q:Option Int->Hp->Prop),Inv X pins σ H s->t σ H Q ->
  wpAny (model X.prog X.w) X.A (evalPart e X.env) (λu s'=>∃o H',Inv X pins σ H' s'/\IsPart u o/\Q o H') X.xe s
noncomputable def tNoPart:TO:=λ_ H Q=>Q none H
noncomputable def tPart (t:TE):TO:=fun σ H Q=>t σ H λx H1=>∃i,x=.int i/\Q (some i) H1
theorem intsAre_of {ns:List Int}:∀{us:List Value},Vals (ns.map V.int) us->IntsAre us ns:=by
 induction ns with
 |nil=>intro us r;rw[List.map_nil]at r;cases r;exact .nil
 |cons n ns ih =>
  intro us r
  rw[YC]at r
  cases r with
  |cons r1 r2 =>
   obtain⟨t,e⟩:=r1
   subst e
   exact .cons n t (ih r2)
section
variable {X:Cx}{e:Expr}{te:TE}{lo hi:Option Expr}{tl th:TO}{pos p2:Pos}
theorem ZcP:PO X none tNoPart:=by
 intro pins s σ H Q I h
 rw[evalPart_none]
 exact Yc ⟨none,H,I,.none,h⟩
theorem Zau (h:PE X e te):PO X (some e) (tPart te):=by
 intro pins s σ H Q I hw
 rw[evalPart_some]
 refine thn (h pins s σ H _ I hw) λu s1 ⟨x,H1,I1,r1,q1⟩=>?_
 obtain⟨i,rfl,q⟩:=q1
 obtain⟨t,rfl⟩:=r1
 exact⟨some i,H1,I1,.int i t,q⟩
noncomputable def SlR (X:Cx) (r:V->Option Int->Option Int->Hp->VK->Prop):Prop :=
 ∀(pins:List (Addr×Obj)) (s:Shared) (σ:St) (H:Hp) (x:V) (v vl vu:Value) (lo hi:Option Int) (sl:Addr) (Q:VK),Inv X pins σ H s->RelV x v->s.heap.IsSliceOf sl vl vu .none->IsPart vl lo->IsPart vu hi->r x lo hi H Q ->
  ∃T id,typeLookup (.type T) "__getitem__"=pure (some (.builtin id))/\s.TypeIs v T/\wpAny (model X.prog X.w) X.A (getItem v (.ref sl)) (EP X pins σ Q) X.xe s
noncomputable def tSl (r:V->Option Int->Option Int->Hp->VK->Prop) (te:TE) (tl th:TO):TE:=fun σ H Q=>te σ H λx H1=>tl σ H1 λl H2=>th σ H2 λu H3=>r x l u H3 Q
theorem Zax {r:V->Option Int->Option Int->Hp->VK->Prop} (hr:SlR X r) (he:PE X e te) (hl:PO X lo tl) (hu:PO X hi th):PE X (.Subscript e (.Slice lo hi none p2) pos) (tSl r te tl th):=by
 intro pins s σ H Q I h
 refine Subscript_ (thn (he pins s σ H _ I h) λv s1 ⟨x,H1,I1,r1,q1⟩=>?_)
 refine wpAny_Slice (thn (hl pins s1 σ H1 _ I1 q1) λvl s2 ⟨l,H2,I2,pl,q2⟩=>thn (hu pins s2 σ H2 _ I2 q2) λvu s3 ⟨u,H3,I3,pu,q3⟩=>?_)
 rw[evalPart_none]
 refine Yc ?_
 have I4:Inv X pins σ H3 {s3 with heap:=s3.heap.push {cls:=.type "slice",data:=.fields #[vl,vu,.none]}}:=I3.kept (t':=s3.toks) λb ob q=>Yn _ q
 obtain⟨T,id,hT,ht,hg⟩:=hr pins {s3 with heap:=s3.heap.push {cls:=.type "slice",data:=.fields #[vl,vu,.none]}} σ H3 x v vl vu l u s3.heap.objs.size Q I4 r1 (Heap.IsSliceOf.new ..) pl pu q3
 show wpAny (model X.prog X.w) X.A (subscriptTail e (.Slice lo hi none p2) v (.ref s3.heap.objs.size)) (EP X pins σ Q) X.xe {s3 with heap:=s3.heap.push {cls:=.type "slice",data:=.fields #[vl,vu,.none]}}
 exact tail_any (ops:=[.ref s3.heap.objs.size,v]) ht hT hg (by with_unfolding_all rfl)
noncomputable def Zbx (xs:List V) (lo hi:Option Int):List V:=(xs.drop (HT.sIx xs.length 0 lo)).take (HT.sIx xs.length xs.length hi-HT.sIx xs.length 0 lo)
theorem Zd6 (xs:List V) (lo hi:Option Int):(Zbx xs lo hi).length<=xs.length:=by
 unfold Zbx
 rw[YJ,YT]
 omega
noncomputable def rSlT (K:PySem.W.Frag):V->Option Int->Option Int->Hp->VK->Prop:=λx lo hi H Q=>∃a xs,x=.ref a/\SqT K H a xs /\
 ¬ (HT.sIx xs.length 0 lo=0/\HT.sIx xs.length xs.length hi=xs.length)/\∀p,H p=none->Q (.ref p) (upd H p (.tup (Zbx xs lo hi)))
theorem ZnL:SlR X (rSlT X.K):=by
 intro pins s σ H x v vl vu lo hi sl Q I rx hs pl pu h
 obtain⟨a,xs,rfl,hx,hw,q⟩:=h
 cases rx
 obtain⟨its,r,ht,hz⟩:=I.tuple hx
 have hlen:its.toArray.size=xs.length:=by rw[Yl];exact r.length.symm
 refine⟨"tuple",_,PyProof.Rows.slot_tuple_getitem.lookup,ht.typeIs,?_⟩
 refine HT.Zfg ht hs pl pu (by rw[hlen];exact hw) ?_ (by rw[hlen];exact hz)
 rw[hlen]
 refine⟨.ref s.heap.objs.size,_,I.laid (t':=s.toks) (o:=.tup (Zbx xs lo hi)) (λb ob q=>Yn _ q) (Ye _) ?_,rfl,q _ (I.hok.fresh (Ye _))⟩
 exact⟨Yj (Zd6 xs lo hi) hz,_,(r.drop (HT.sIx xs.length 0 lo)).take (HT.sIx xs.length xs.length hi-HT.sIx xs.length 0 lo),IsTup.new _ _⟩
theorem Vals.Zix {xs:List V}{us:List Value} (r:Vals xs us):us=[]↔xs=[]:=by
 cases r with
 |nil=>simp
 |cons _ _=>simp
end
noncomputable def ixN (n:Nat) (i:Int):Option Nat:=if 0<=i then (if i<n then some i.toNat else none)else if -(n:Int)<=i then some (i+n).toNat else none
noncomputable def atI {α:Type} (xs:List α) (i:Int):Option α:=(ixN xs.length i).bind λj=>xs[j]?
theorem Zle {n:Nat}{i:Int}{j:Nat} (h:ixN n i=some j):seqIndex? i n=some j/\j<n/\-(n:Int)<=i/\i<n:=by
 unfold ixN at h
 by_cases h0:0<=i
 ·rw[Yd h0]at h
  by_cases h1:i<n
  ·rw[Yd h1]at h
   have e:i.toNat=j:=Yo h
   exact⟨by rw[seqIndex_of h0 h1,e],by omega,by omega,h1⟩
  ·rw[Yb h1]at h;cases h
 ·rw[Yb h0]at h
  by_cases h1:-(n:Int)<=i
  ·rw[Yd h1]at h
   have e:(i+n).toNat=j:=Yo h
   exact⟨by rw[seqIndex_neg (by omega) h1,e],by omega,h1,by omega⟩
  ·rw[Yb h1]at h;cases h
theorem Zlf {α:Type}{xs:List α}{i:Int}{v:α} (h:atI xs i=some v):∃j,seqIndex? i xs.length=some j/\xs[j]?=some v/\j<xs.length/\-(xs.length:Int)<=i/\i<xs.length:=by
 unfold atI at h
 cases e:ixN xs.length i with
 |none=>rw[e]at h;cases h
 |some j =>
  rw[e]at h
  obtain⟨h1,h2,h3,h4⟩:=Zle e
  exact⟨j,h1,h,h2,h3,h4⟩
theorem Zlg {α:Type}{xs:List α}{j:Nat}{v:α} (h:xs[j]?=some v):atI xs (j:Int)=some v:=by
 have hj:j<xs.length:=(Yi.mp h).1
 have e:ixN xs.length (j:Int)=some j:=by
  unfold ixN
  rw[Yd (by omega),Yd (by omega)];simp
 unfold atI;rw[e];exact h
theorem ZnM {α:Type} (xs:List α) (v:α):atI (xs++[v]) (-1)=some v:=by
 have hl:(xs++[v]).length=xs.length+1:=by simp
 have e:ixN (xs++[v]).length (-1)=some xs.length:=by
  unfold ixN
  rw[hl,Yb (by decide),Yd (by omega)]
  congr 1
  omega
 unfold atI
 rw[e]
 show(xs++[v])[xs.length]?=some v
 simp
noncomputable def Zps (b:Expr):Prop:=∀o i,subscripted b false o i=operate [o,i] (getItem o i)
noncomputable def IxR (X:Cx) (r:R2):Prop :=
 ∀(value slice:Expr) (pins:List (Addr×Obj)) (s:Shared) (σ:St) (H:Hp) (x y:V) (v u:Value) (Q:VK),Inv X pins σ H s->RelV x v->RelV y u->r x y H Q ->
  subscripted slice false v u=operate [v,u] (getItem v u)->wpAny (model X.prog X.w) X.A (subscriptTail value slice v u) (EP X pins σ Q) X.xe s
noncomputable def MtR (X:Cx) (id:String) (r:V->List V->Hp->VK->Prop):Prop :=
 ∀(pins:List (Addr×Obj)) (s:Shared) (σ:St) (H:Hp) (x:V) (xs:List V) (v:Value) (us:List Value) (Q:VK),Inv X pins σ H s->RelV x v->Vals xs us->r x xs H Q ->
  wpAny (model X.prog X.w) X.A (call (.builtin id) (v::us)) (EP X pins σ Q) X.xe s
section
variable {X:Cx}{a b:Expr}{ta tb:TE}{pos:Pos}
theorem IxR.or {r r':R2} (h:IxR X r) (h':IxR X r'):IxR X (λx y H Q=>r x y H Q\/r' x y H Q):=by
 intro value slice pins s σ H x y v u Q I rx ry q hs
 rcases q with q|q
 ·exact h value slice pins s σ H x y v u Q I rx ry q hs
 ·exact h' value slice pins s σ H x y v u Q I rx ry q hs
theorem ZF {r:R2} (hr:IxR X r) (ha:PE X a ta) (hb:PE X b tb) (hs:Zps b):PE X (.Subscript a b pos) (tOp r ta tb):=by
 intro pins s σ H Q I h
 exact Subscript_ (binT ha hb I h λv u s2 x y H2 I2 rx ry q=>hr a b pins s2 σ H2 x y v u Q I2 rx ry q (hs _ _))
noncomputable def rIxL (K:PySem.W.Frag):R2:=λx y H Q=>∃p xs i v,x=.ref p/\y=.int i/\SqL K H p xs/\atI xs i=some v/\Q v H
noncomputable def rIxT (K:PySem.W.Frag):R2:=λx y H Q=>∃p xs i v,x=.ref p/\y=.int i/\SqT K H p xs/\atI xs i=some v/\Q v H
theorem ZA:IxR X (rIxL X.K):=by
 intro value slice pins s σ H x y v u Q I rx ry h hs
 obtain⟨p,xs,i,z,rfl,rfl,hq,he,q⟩:=h
 cases rx
 obtain⟨t,rfl⟩:=ry
 obtain⟨its,r,pl,hz⟩:=I.list hq
 obtain⟨j,h1,h2,h3,h4,h5⟩:=Zlf he
 obtain⟨w,ew,rw'⟩:=r.get h2
 have hl:=r.length
 have hn:=Ziw
 have fin:EP X pins σ Q w s:=⟨z,H,I,rw',q⟩
 by_cases h0:0<=i
 ·have hj:i.toNat=j:=by
   rw[seqIndex_of h0 h5]at h1
   exact Yo h1
  exact item_listR pl.isList h0 (by omega) (by rw[hj];simpa using ew) fin hs
 ·have hj:(i+(its.toArray.size:Int)).toNat=j:=by
   rw[seqIndex_neg (by omega) h4]at h1
   rw[Yl,<-hl]
   exact Yo h1
  exact subscriptTail_builtinR (x:=w) pl.isList.typeIs slot_list_getitem.lookup
   (wpAny_getItem_list_neg (Q:=λr s'=>r=w/\EP X pins σ Q r s') pl.isList (by omega) (by rw[Yl]<;>omega) (by omega) (by rw[hj];simpa using ew) ⟨rfl,fin⟩) hs
theorem Zby:IxR X (rIxT X.K):=by
 intro value slice pins s σ H x y v u Q I rx ry h hs
 obtain⟨p,xs,i,z,rfl,rfl,hq,he,q⟩:=h
 cases rx
 obtain⟨t,rfl⟩:=ry
 obtain⟨its,r,pl,hz⟩:=I.tuple hq
 obtain⟨j,h1,h2,h3,h4,h5⟩:=Zlf he
 obtain⟨w,ew,rw'⟩:=r.get h2
 have hl:=r.length
 have hn:=Ziw
 have fin:EP X pins σ Q w s:=⟨z,H,I,rw',q⟩
 exact subscriptTail_builtinR (x:=w) pl.typeIs slot_tuple_getitem.lookup
  (getItem_tuple (j:=j) (Q:=λr s'=>r=w/\EP X pins σ Q r s') pl (by omega) (by omega) (by rw[Yl,<-hl];exact h1) (by simpa using ew) ⟨rfl,fin⟩) hs
theorem Zkp (its:List Value) (n j:Nat) (u:Value):Obj.mapSeq (·.setIfInBounds j u) {cls:=.type "list",data:=.seq its.toArray n}={cls:=.type "list",data:=.seq (its.set j u).toArray n}:=by
 simp[Obj.mapSeq]
theorem Inv.lst {pins:List (Addr×Obj)}{σ:St}{H:Hp}{s:Shared}{p:Addr}{xs:List V} (I:Inv X pins σ H s) (h:H p=some (.lst xs)) :
  ∃(its:List Value) (n:Nat),Vals xs its/\s.heap.get? p=some {cls:=.type "list",data:=.seq its.toArray n}/\xs.length<=sizeLine:=by
 obtain⟨z,its,n,r,e⟩:=I.hok p _ h
 exact⟨its,n,r,e,z⟩
theorem Inv.lstUpd {pins:List (Addr×Obj)}{σ:St}{H:Hp}{s:Shared}{p:Addr}{xs ys:List V}{its its':List Value}{n n':Nat}{f:Obj->Obj} (I:Inv X pins σ H s) (h:H p=some (.lst xs))
  (ho:s.heap.get? p=some {cls:=.type "list",data:=.seq its.toArray n}) (hf:f {cls:=.type "list",data:=.seq its.toArray n}={cls:=.type "list",data:=.seq its'.toArray n'}) (r:Vals ys its') (hz:ys.length<=sizeLine) (t:Nat) :
  Inv X pins σ (upd H p (.lst ys)) {s with heap:=s.heap.update p f,toks:=t}:=by
 have e:(s.heap.update p f).get? p=some {cls:=.type "list",data:=.seq its'.toArray n'}:=by
  rw[Heap.get?_update_self f ho (by rw[hf]<;>rfl),hf]
 refine I.write (x:=p) (e:=p) (by rw[h];trivial) (.inl rfl) (λb u hb q=>(Heap.get?_update_other _ _ (Ne.symm hb)).trans q) ⟨_,e⟩ ?_
 exact⟨hz,its',n',r,e⟩
noncomputable def rSetL:V->V->V->Hp->(Hp->Prop)->Prop:=λo i v H Q=>∃p xs k j,o=.ref p/\i=.int k/\H p=some (.lst xs)/\ixN xs.length k=some j/\Q (upd H p (.lst (xs.set j v)))
theorem set_list:PSet X rSetL:=by
 intro pins s σ H o i v ov iv u Q I ro ri rv h
 obtain⟨p,xs,k,j,rfl,rfl,hp,hj,q⟩:=h
 cases ro
 obtain⟨t,rfl⟩:=ri
 obtain⟨its,n,r,ho,hz⟩:=I.lst hp
 obtain⟨h1,h2,h3,h4⟩:=Zle hj
 have hl:=r.length
 have hn:=Ziw
 have I':Inv X pins σ (upd H p (.lst (xs.set j v))) {s with heap:=s.heap.update p (Obj.mapSeq (·.setIfInBounds j u))} :=
  I.lstUpd hp ho (Zkp its n j u) (r.set rv j) (by rw[List.length_set];exact hz) s.toks
 by_cases h0:0<=k
 ·have hk:k.toNat=j:=by
   rw[seqIndex_of h0 h4]at h1
   exact Yo h1
  exact PySem.W.ki_setAt ho h0 (by omega) (by rw[Yl,<-hl];exact h4) (by rw[hk];exact⟨_,I',q⟩)
 ·have hk:(k+(its.toArray.size:Int)).toNat=j:=by
   rw[seqIndex_neg (by omega) h3]at h1
   rw[Yl,<-hl]
   exact Yo h1
  exact PySem.W.ki_setBack ho (by omega) (by rw[Yl,<-hl];exact h3) (by omega) (by rw[hk];exact⟨_,I',q⟩)
theorem Ziy (lo hi:Option Int) (n:Nat):(sliceBounds lo hi none n).1=((HT.sIx n 0 lo:Nat):Int)/\(sliceBounds lo hi none n).2.1=((HT.sIx n n hi:Nat):Int)/\(sliceBounds lo hi none n).2.2=1:=by
 refine⟨?_,?_,rfl⟩
 ·cases lo with
  |none=>simp[sliceBounds,HT.sIx]
  |some i =>
   simp only[sliceBounds,HT.sIx,Option.getD_none,show(1:Int)>0 by decide,if_true]
   by_cases h:i<0
   ·simp only[h,if_true]<;>omega
   ·simp only[h,if_false]<;>omega
 ·cases hi with
  |none=>simp[sliceBounds,HT.sIx]
  |some i =>
   simp only[sliceBounds,HT.sIx,Option.getD_none,show(1:Int)>0 by decide,if_true]
   by_cases h:i<0
   ·simp only[h,if_true]<;>omega
   ·simp only[h,if_false]<;>omega
theorem Zhz (its:List Value) (lo hi:Option Int):slicePick its.toArray lo hi none=((its.drop (HT.sIx its.length 0 lo)).take (HT.sIx its.length its.length hi-HT.sIx its.length 0 lo)).toArray:=by
 obtain⟨h1,h2,h3⟩:=Ziy lo hi its.toArray.size
 unfold slicePick
 rw[h1,h2,h3]
 simp only[sliceRange_one,pick_run,Yl]<;>rfl
noncomputable def rSlL (K:PySem.W.Frag):V->Option Int->Option Int->Hp->VK->Prop:=λx lo hi H Q=>∃a xs,x=.ref a/\SqL K H a xs/\∀p,H p=none->Q (.ref p) (upd H p (.lst (Zbx xs lo hi)))
theorem Zco:SlR X (rSlL X.K):=by
 intro pins s σ H x v vl vu lo hi sl Q I rx hs pl pu h
 obtain⟨a,xs,rfl,hx,q⟩:=h
 cases rx
 obtain⟨its,r,ht,hz⟩:=I.list hx
 have hlen:=r.length
 refine⟨"list",_,slot_list_getitem.lookup,ht.isList.typeIs,?_⟩
 refine wpAny_getItem_list_slice ht.isList hs pl pu .none (by simp) ?_ (by rw[Yl]<;>omega)
 rw[Zhz,<-hlen]
 refine⟨.ref s.heap.objs.size,_,I.laid (t':=s.toks) (o:=.lst (Zbx xs lo hi)) (λb ob q=>Yn _ q) (Ye _) ?_,rfl,q _ (I.hok.fresh (Ye _))⟩
 exact⟨Yj (Zd6 xs lo hi) hz,_,0,(r.drop (HT.sIx xs.length 0 lo)).take (HT.sIx xs.length xs.length hi-HT.sIx xs.length 0 lo),Yt _ rfl⟩
noncomputable def flatV:V->Bool
 |.non=>true
 |.bl _=>true
 |.int _=>true
 |.str _=>true
 |_=>false
noncomputable def eqV:V->V->Bool
 |.non,.non=>true
 |.bl a,.bl b=>a==b
 |.bl a,.int b=>(if a then 1 else 0)==b
 |.int a,.bl b=>a==(if b then 1 else 0)
 |.int a,.int b=>a==b
 |.str a,.str b=>a==b
 |_,_=>false
theorem ZnN {A:Around}{s:Shared}{y x:V}{u v:Value} (ry:RelV y u) (rx:RelV x v) (fy:flatV y=true) (fx:flatV x=true):SeqAt.EqAt A s u v (eqV y x):=by
 cases y with
 |non =>
  cases ry
  cases x with
  |non=>cases rx;exact SeqAt.EqAt.same _
  |bl b=>cases rx;exact SeqAt.EqAt.none_bool b
  |int b=>obtain⟨t,rfl⟩:=rx;exact SeqAt.EqAt.none_int b t
  |str b=>obtain⟨t,rfl⟩:=rx;exact SeqAt.EqAt.none_str b t
  |_=>exact absurd (show false=true from fx) Yr
 |bl a =>
  cases ry
  cases x with
  |non=>cases rx;exact SeqAt.EqAt.bool_none a
  |bl b=>cases rx;exact SeqAt.EqAt.bool_bool a b
  |int b=>obtain⟨t,rfl⟩:=rx;exact SeqAt.EqAt.bool_int a b t
  |str b=>obtain⟨t,rfl⟩:=rx;exact SeqAt.EqAt.bool_str a b t
  |_=>exact absurd (show false=true from fx) Yr
 |int a =>
  obtain⟨t',rfl⟩:=ry
  cases x with
  |non=>cases rx;exact SeqAt.EqAt.int_none a t'
  |bl b=>cases rx;exact SeqAt.EqAt.int_bool a t' b
  |int b=>obtain⟨t,rfl⟩:=rx;exact SeqAt.EqAt.int_int a t' b t
  |str b=>obtain⟨t,rfl⟩:=rx;exact SeqAt.EqAt.int_str a t' b t
  |_=>exact absurd (show false=true from fx) Yr
 |str a =>
  obtain⟨t',rfl⟩:=ry
  cases x with
  |non=>cases rx;exact SeqAt.EqAt.str_none a t'
  |bl b=>cases rx;exact SeqAt.EqAt.str_bool a t' b
  |int b=>obtain⟨t,rfl⟩:=rx;exact SeqAt.EqAt.str_int a t' b t
  |str b=>obtain⟨t,rfl⟩:=rx;exact SeqAt.EqAt.str_str a t' b t
  |_=>exact absurd (show false=true from fx) Yr
 |_=>exact absurd (show false=true from fy) Yr
theorem Ziz:Zcz X (.builtin "len") (λxs H Q=>∃p ys,xs=[.ref p]/\(SqL X.K H p ys\/SqT X.K H p ys)/\Q (.int ys.length) H):=by
 intro pins s σ H xs us Q I r h
 obtain⟨p,ys,rfl,hq,q⟩:=h
 obtain⟨u,rfl,rx⟩:=vals1 r
 cases rx
 have hn:=Ziw
 rcases hq with hq|hq
 ·obtain⟨its,r',pl,hz⟩:=I.list hq
  have hlen:=r'.length
  exact Calls.call_len_list pl.isList (by simp only[Yl]<;>omega) ⟨.int ys.length,H,I.tok _,⟨s.toks+1,by rw[Yl,hlen]⟩,q⟩
 ·obtain⟨its,r',pl,hz⟩:=I.tuple hq
  have hlen:=r'.length
  exact len_tuple pl (by simp only[Yl]<;>omega) ⟨.int ys.length,H,I.tok _,⟨s.toks+1,by rw[Yl,hlen]⟩,q⟩
theorem ZiA:Zcz X (.type "list") (λxs H Q=>∃p ys,xs=[.ref p]/\(SqL X.K H p ys\/SqT X.K H p ys)/\∀l,H l=none->Q (.ref l) (upd H l (.lst ys))):=by
 intro pins s σ H xs us Q I r h
 obtain⟨p,ys,rfl,hq,q⟩:=h
 obtain⟨u,rfl,rx⟩:=vals1 r
 cases rx
 have fin:∀(its:List Value),Vals ys its->ys.length<=sizeLine->∀(h':Heap) (c':Nat),(∀b o',s.heap.get? b=some o'->h'.get? b=some o') ->
   h'.get? s.heap.objs.size=some {cls:=.type "list",dict:=none,data:=.seq its.toArray c',slots:=#[]}->EP X pins σ Q (.ref s.heap.objs.size) {s with heap:=h'}:=λits r' hz h' c' kp e =>
  ⟨.ref s.heap.objs.size,_,I.laid (t':=s.toks) kp (Ye _) (show ZO X.prog X.w _ h' _ (.lst ys)from⟨hz,its,c',r',e⟩),rfl,q _ (I.hok.fresh (Ye _))⟩
 rcases hq with hq|hq
 ·obtain⟨its,r',pl,hz⟩:=I.list hq
  have hlen:=r'.length
  obtain⟨o,ho,hc,n,hd⟩:=pl.isList
  exact call_list_seq p (.inl rfl) ho hc hd (λh' c' kp e=>fin its r' hz h' c' kp e) (by simp only[Yl]<;>omega)
 ·obtain⟨its,r',pl,hz⟩:=I.tuple hq
  have hlen:=r'.length
  obtain⟨o,ho,hc,n,hd⟩:=pl
  exact call_list_seq p (.inr rfl) ho hc hd (λh' c' kp e=>fin its r' hz h' c' kp e) (by simp only[Yl]<;>omega)
theorem ZhA:Zcz X (.type "tuple") (λxs H Q=>∃p ys,xs=[.ref p]/\((SqL X.K H p ys/\∀l,H l=none->Q (.ref l) (upd H l (.tup ys)))\/(SqT X.K H p ys/\Q (.ref p) H))):=by
 intro pins s σ H xs us Q I r h
 obtain⟨p,ys,rfl,h⟩:=h
 obtain⟨u,rfl,rx⟩:=vals1 r
 cases rx
 rcases h with⟨hq,q⟩|⟨hq,q⟩
 ·obtain⟨its,r',pl,hz⟩:=I.list hq
  have hlen:=r'.length
  refine call_tuple_list pl.isList (λh' kp=>?_) (by simp only[Yl]<;>omega)
  have I1:Inv X pins σ H {s with heap:=h'}:=I.kept (t':=s.toks) kp
  have I2:Inv X pins σ (upd H h'.objs.size (.tup ys)) {s with heap:=h'.push {cls:=.type "tuple",data:=.seq its.toArray}} :=
   I1.laid (t':=s.toks) (λb o e=>Yn _ e) (Ye _) (show ZO X.prog X.w _ _ _ (.tup ys)from⟨hz,its,r',IsTup.new _ _⟩)
  exact⟨.ref h'.objs.size,_,I2,rfl,q _ (I1.hok.fresh (Ye _))⟩
 ·obtain⟨its,r',pl,hz⟩:=I.tuple hq
  exact call_tuple_same pl ⟨.ref p,H,I,rfl,q⟩
noncomputable def tyV (K:PySem.W.Frag) (T:String) (x:V) (H:Hp):Prop:=match x with
 |.str _=>T="str"
 |.int _=>T="int"
 |.ref p=>(T="list"/\∃xs,SqL K H p xs)\/(T="tuple"/\∃o,K.lookup p=some o/\o.cls=.type "tuple"/\o.dict=none) \/
   (T="dict"/\((∃kvs,H p=some (.dK kvs))\/∃kvs,H p=some (.dT kvs)))\/(T="set"/\∃S n,H p=some (.set S n))
 |_=>False
theorem tyV_is {pins:List (Addr×Obj)}{σ:St}{H:Hp}{s:Shared}{T:String}{x:V}{v:Value} (I:Inv X pins σ H s) (r:RelV x v) (ty:tyV X.K T x H) :
  s.TypeIs v T/\∀a,v=.ref a->∃ob,s.heap.get? a=some ob/\ob.dict=none:=by
 cases x with
 |str z =>
  obtain⟨t,rfl⟩:=r
  cases(show T="str" from ty)
  exact⟨typeIs_str s z t,λ_ e=>nomatch e⟩
 |int i =>
  obtain⟨t,rfl⟩:=r
  cases(show T="int" from ty)
  exact⟨typeIs_int s i t,λ_ e=>nomatch e⟩
 |ref p =>
  cases r
  rcases ty with⟨rfl,xs,hq⟩|⟨rfl,o,hk,hc,hd⟩|⟨rfl,hk⟩|⟨rfl,S,n,hk⟩
  ·obtain⟨its,_,pl,_⟩:=I.list hq
   refine⟨pl.isList.typeIs,λa e=>?_⟩
   cases e
   obtain⟨o,n,e,c,hd,_⟩:=pl
   exact⟨o,e,hd⟩
  ·refine⟨⟨o,I.kIn p o hk,hc⟩,λa e=>?_⟩
   cases e
   exact⟨o,I.kIn _ o hk,hd⟩
  ·have z:∃o,s.heap.get? p=some o/\o.ExactDict:=by
    rcases hk with⟨kvs,hk⟩|⟨kvs,hk⟩
    ·obtain⟨_,_,_,_,o,_,_,e,ex,_⟩:=I.hok p _ hk
     exact⟨o,e,ex⟩
    ·obtain⟨_,_,_,_,o,_,_,e,ex,_⟩:=I.hok p _ hk
     exact⟨o,e,ex⟩
   obtain⟨o,e,ex⟩:=z
   refine⟨⟨o,e,ex.1⟩,λa e2=>?_⟩
   cases e2
   exact⟨o,e,ex.2.1⟩
  ·obtain⟨o,_,_,_,e,ex,_⟩:=I.hok p _ hk
   refine⟨⟨o,e,ex.1⟩,λa e2=>?_⟩
   cases e2
   exact⟨o,e,ex.2.1⟩
 |_=>exact False.elim ty
noncomputable def tBM (K:PySem.W.Frag) (T:String) (r:V->List V->Hp->VK->Prop) (to:TE) (t:TA):TE:=fun σ H Q=>to σ H λx H1=>tyV K T x H1/\t σ H1 λxs H2=>r x xs H2 Q
variable {o e:Expr}{es:List Expr}{to:TE}{t:TA}{name:Str}{apos cpos:Pos}{T id:String}{r:V->List V->Hp->VK->Prop}
theorem Zdj (pa:PlainAttrs T) (slot:Slot T name id) (hty:typeOf (.builtin id)=pure (.type "method_descriptor")) (hm:MtR X id r) (ho:PE X o to) (ha:PA X (e::es) t)
  (hbase:attributeBase o name X.env (eval o X.env)=eval o X.env:=by rfl)
  (hfew:((backTo cpos (starEach (e::es) X.env)).all (λx=>!x.1)&&(backToKw cpos (keywordEach [] X.env)).all (λx=>x.1.isSome)
   && decide ((e::es).length+([]:List Keyword).length+(if ([]:List Keyword).isEmpty then 0 else 1)<30))=true:=by rfl)
  (hline:(apos.endLine==cpos.line)=true:=by rfl) (hs:starEach (e::es) X.env=(false,eval e X.env)::starEach es X.env:=by rfl) (hplain:(backTo cpos (starEach es X.env)).any (·.1)=false:=by rfl) :
  PE X (.Call (.Attribute o name apos) (e::es) [] cpos) (tBM X.K T r to t):=by
 intro pins s σ H Q I h
 refine wpAny_Call_method_late hbase hfew hline rfl (thn (ho pins s σ H _ I h) λv s1 ⟨x,H1,I1,r1,ty,q1⟩=>?_)
 obtain⟨h1,h2⟩:=tyV_is I1 r1 ty
 refine⟨T,id,pa,slot,hty,h1,h2,?_⟩
 have hA:=ha cpos pins s1 σ H1 _ I1 q1
 rw[hs]at hA⊢
 refine Calls.callWith_builtin (by show(false||(backTo cpos (starEach es X.env)).any (·.1))=false;rw[hplain]<;>rfl) (Calls.evalArgs_plain ?_)
 exact thn hA λus s2 ⟨vs,H2,I2,r2,q2⟩=>hm pins s2 σ H2 x vs v us Q I2 r1 r2 q2
end
noncomputable def MtM (X:Cx) (id:String) (r:V->List V->Hp->VK->Prop):Prop :=
 ∀(pins:List (Addr×Obj)) (s:Shared) (σ:St) (H:Hp) (x:V) (xs:List V) (v:Value) (us:List Value) (Q:VK),Inv X pins σ H s->RelV x v->Vals xs us->r x xs H Q ->
  wpAny (model X.prog X.w) X.A (call (.builtin id) (v::us)) (EP X pins σ Q) X.xe s
theorem Vals.one:∀{x:V}{us:List Value},Vals [x] us->∃u,us=[u]/\RelV x u
 |_,_,.cons r .nil=>⟨_,rfl,r⟩
theorem Vals.two:∀{x y:V}{us:List Value},Vals [x,y] us->∃u v,us=[u,v]/\RelV x u/\RelV y v
 |_,_,_,.cons r (.cons q .nil)=>⟨_,_,rfl,r,q⟩
theorem Vals.rep {xs:List V}{us:List Value} (h:Vals xs us):∀k:Nat,Vals (List.replicate k xs).flatten (List.replicate k us).flatten
 |0=>.nil
 |k+1=>by
  rw[List.replicate_succ,List.replicate_succ,List.flatten_cons,List.flatten_cons]
  exact Vals.append h (Vals.rep h k)
theorem foldl_rep (its:List Value):∀(k:Nat) (acc:List Value),
  List.foldl (λx1 x2=>x1++x2) acc.toArray (List.replicate k its.toArray)=(acc++(List.replicate k its).flatten).toArray
 |0,acc=>by simp
 |k+1,acc=>by
  have e:acc.toArray++its.toArray=(acc++its).toArray:=by simp
  have e2:(acc++its)++(List.replicate k its).flatten=acc++(List.replicate (k+1) its).flatten:=by
   rw[List.replicate_succ,List.flatten_cons,YV]
  rw[<-e2,<-foldl_rep its k (acc++its),<-e,List.replicate_succ,List.foldl_cons]
section
variable {X:Cx}{pins:List (Addr×Obj)}{σ:St}{H:Hp}{s:Shared}{l b:Addr}{xs ys zs:List V}
theorem Inv.lset {its its':List Value}{n:Nat}{f:Array Value->Array Value}{t':Nat} (I:Inv X pins σ H s) (hH:H l=some (.lst xs))
  (e:s.heap.get? l=some {cls:=.type "list",data:=.seq its.toArray n}) (hf:f its.toArray=its'.toArray) (hv:Vals ys its') (hz:ys.length<=sizeLine) :
  Inv X pins σ (upd H l (.lst ys)) {s with heap:=s.heap.update l (Obj.mapSeq f),toks:=t'}:=by
 have q:=PySem.IsL.update e f
 rw[hf]at q
 refine I.write (x:=l) (e:=l) (by rw[hH];exact trivial) (.inl rfl) (λb' u hb hu=>(Heap.get?_update_other s.heap (Obj.mapSeq f) (Ne.symm hb)).trans hu) ⟨_,q⟩ ?_
 exact⟨hz,its',_,hv,q⟩
theorem Inv.lnew {its:List Value}{t':Nat} (I:Inv X pins σ H s) (hv:Vals ys its) (hz:ys.length<=sizeLine) :
  Inv X pins σ (upd H s.heap.objs.size (.lst ys)) {s with heap:=s.heap.push {cls:=.type "list",data:=.seq its.toArray},toks:=t'} :=
 I.laid (λ_ _ q=>Yn _ q) (Ye _) ⟨hz,its,0,hv,Yt _ rfl⟩
theorem Inv.fresh (I:Inv X pins σ H s):H s.heap.objs.size=none:=I.hok.fresh (Ye _)
theorem Inv.ZlN (I:Inv X pins σ H s) (hH:H l=some (.lst xs)):xs.length<=sizeLine/\∃(its:List Value) (n:Nat),Vals xs its/\xs.length=its.length/\s.heap.get? l=some {cls:=.type "list",data:=.seq its.toArray n}:=by
 obtain⟨z,its,n,r,e⟩:=I.hok l _ hH
 exact⟨z,its,n,r,r.length,e⟩
theorem ZnO {n:Nat} (h:n<=sizeLine):Builtin.List.listTooLong n=false:=by
 unfold Builtin.List.listTooLong
 exact YE (by omega)
end
section
variable {X:Cx}
noncomputable def rAppend:V->List V->Hp->VK->Prop:=λx vs H Q=>∃l xs y,x=.ref l/\vs=[y]/\H l=some (.lst xs)/\xs.length<sizeLine/\Q .non (upd H l (.lst (xs++[y])))
theorem Zap:MtM X "list.append" rAppend:=by
 intro pins s σ H x vs v us Q I rx rv h
 obtain⟨l,xs,y,rfl,rfl,hH,hz,q⟩:=h
 cases rx
 obtain⟨u,rfl,ru⟩:=rv.one
 obtain⟨z,its,n,r,hl,e⟩:=I.ZlN hH
 refine call_meets F.slot_list_append ⟨_,e,rfl⟩ F.entry_list_append (F.args_list_append_2 _ _) (PySem.list_append l its.toArray n u (by rw[Yl];omega)) ⟨e,?_⟩
 refine⟨.non,_,I.lset (its':=its++[u]) hH e (by simp) (r.append (.cons ru .nil)) ?_,rfl,q⟩
 rw[Yy,List.length_singleton]
 omega
noncomputable def rCat:R2:=λx y H Q=>∃l b xs zs,x=.ref l/\y=.ref b/\H l=some (.lst xs)/\H b=some (.lst zs)/\xs.length+zs.length<=sizeLine/\∀p,H p=none->Q (.ref p) (upd H p (.lst (xs++zs)))
theorem ZiB:OpR X (binaryOp .Add) rCat:=by
 intro pins s σ H x y v u Q I rx ry h
 obtain⟨l,b,xs,zs,rfl,rfl,hH,hB,hz,q⟩:=h
 cases rx
 cases ry
 obtain⟨z,its,n,r,hl,e⟩:=I.ZlN hH
 obtain⟨z2,its2,n2,r2,hl2,e2⟩:=I.ZlN hB
 refine PySem.P.add_list e e2 ?_ (by rw[Yl,Yl];omega)
 have ea:its.toArray++its2.toArray=(its++its2).toArray:=by simp
 rw[ea]
 exact⟨.ref _,_,I.lnew (t':=s.toks) (r.append r2) (by rw[Yy];omega),rfl,q _ I.fresh⟩
noncomputable def rRep:R2:=λx y H Q=>∃l k xs,x=.ref l/\y=.int k/\H l=some (.lst xs)/\-(2 ^ 63)<=k/\k<2 ^ 63/\xs.length*k.toNat<=sizeLine /\
 ∀p,H p=none->Q (.ref p) (upd H p (.lst (List.replicate k.toNat xs).flatten))
theorem len_rep {α:Type} (xs:List α) (k:Nat):(List.replicate k xs).flatten.length=k*xs.length:=by
 induction k with
 |zero=>simp
 |succ k ih=>rw[List.replicate_succ,List.flatten_cons,Yy,ih,Nat.succ_mul,Nat.add_comm]
theorem op_rep:OpR X (binaryOp .Mult) rRep:=by
 intro pins s σ H x y v u Q I rx ry h
 obtain⟨l,k,xs,rfl,rfl,hH,h1,h2,hz,q⟩:=h
 cases rx
 obtain⟨t,rfl⟩:=ry
 obtain⟨z,its,n,r,hl,e⟩:=I.ZlN hH
 have hlen:its.toArray.size*k.toNat<=sizeLine:=by rw[Yl,<-hl];exact hz
 have hcap:¬ its.toArray.size*k.toNat>(2 ^ 63-1) / 8:=by
  have:(sizeLine:Nat)<=(2 ^ 63-1) / 8:=by decide
  omega
 have hfit:¬ (!Builtin.List.listFitsIndex k)=true:=by
  rw[fitsIndex_both h1 h2]
  exact Yr
 have hlong:¬ Builtin.List.listTooLong (its.toArray.size*k.toNat)=true:=by
  rw[ZnO hlen]
  exact Yr
 have hnew:List.foldl (λx1 x2=>x1++x2) #[] (List.replicate (if its.toArray.isEmpty=true then 0 else k.toNat) its.toArray)=(List.replicate k.toNat its).flatten.toArray:=by
  have f0:∀m:Nat,List.foldl (λx1 x2=>x1++x2) #[] (List.replicate m its.toArray)=(List.replicate m its).flatten.toArray:=λm=>by
   have:=foldl_rep its m []
   rw[List.nil_append]at this
   exact this
  rw[f0]
  cases its with
  |nil=>simp
  |cons a r'=>rw[Yb (by simp)]
 refine wpAny_binaryOp_repeat_ref (T:="list") (U:="int") (by decide) ⟨_,e,rfl⟩ (λs'=>typeIs_int s' k t) noFill_list_mul F.fills_int_mul F.slot_int_rmul repeat_list F.slot_int_index.lookup
  (call_meets F.slot_int_rmul (typeIs_int s k t) F.entry_int_rmul (F.args_int_rmul_2 _ _) (int___rmul___int_list k t l its.toArray n)
   ⟨e,rfl,⟨_,e,rfl⟩,call_meets F.slot_list_mul ⟨_,e,rfl⟩ F.entry_list_mul (F.args_list_mul_2 _ _) (AutoListH.list___mul___list_int_3 l its.toArray n k t hfit hcap hlong) ⟨e,?_⟩⟩)
 rw[hnew]
 exact⟨.ref _,_,I.lnew (t':=s.toks) (r.rep k.toNat) (by rw[len_rep,Nat.mul_comm];exact hz),rfl,q _ I.fresh⟩
end
end L2
namespace Att
open PySem PySem.W PySem.Calls PyProof.Rows
theorem Zgq {P:Params}{h:Heap}:∀(ns:List Int) (vs:List Value),WellAll P h vs (ns.map WData.int)->IntsAre vs ns:=by
 intro ns
 induction ns with
 |nil =>
  intro vs w
  rw[List.map_nil]at w
  cases w
  exact .nil
 |cons n ns ih =>
  intro vs w
  rw[YC]at w
  cases w with
  |cons a b =>
   cases a
   exact .cons _ _ (ih _ b)
theorem ZlO {l:OpenLaw}{n:Nat} (hn:l.most=some n) {P:Params}{h:Heap}{args:List WData}{vals:List Value}
  (hpre:l.row.toRowW.claim.pre args=true) (hwl:WellAll P h vals args) :
  ∃a vs ns,vals=[Value.ref a]/\args=[WData.list (ns.map WData.int)]/\h.get? a=some {cls:=.type "list",data:=.seq vs.toArray}/\IntsAre vs ns/\ns.length<=n:=by
 have hsh:WShape.hasAll [] args [.list .int]=true:=(pre_splitW hpre).1
 have hc:l.pre.holds [] {args:=args}=true:=(pre_splitW hpre).2
 obtain⟨d,r,rfl,h1,h2⟩:=hasAllW_cons hsh
 obtain rfl:=hasAllW_nil h2
 obtain⟨xs,rfl,h3⟩:=hasW_list h1
 obtain⟨ns,rfl⟩:=items_int h3
 have hlen:ns.length<=n:=by
  unfold OpenLaw.pre at hc
  have h4:(WTm.not (.lt (.lit (.int (n:Int))) (.len (.arg 0)))).holds [] {args:=[.list (ns.map .int)]}=true:=by
   have h4:=(holds_andW hc).1
   rw[hn]at h4
   exact h4
  have h5:=condW_of h4 (w_not (w_lt w_lit (w_len_list (w_arg rfl))))
  rw[Yg]at h5
  refine Nat.le_of_not_lt λq=>?_
  have q':(n:Int)<((ns.length:Nat):Int):=by omega
  first
   |(rw[YF q']at h5;exact absurd h5 (by decide))
   |(simp at h5;omega)
 cases hwl with
 |cons w1 w2 =>
  cases w2
  cases w1 with
  |list ho hall=>exact⟨_,_,ns,rfl,rfl,ho,Zgq ns _ hall,hlen⟩
theorem ZlP (l:OpenLaw) (args:List WData):l.row.toRowW.claim.post args (.bool true) args=true :=
 postW_of (r:=l.row.toRowW) (X:=(true==true))
  (show WShape.has [] (.bool true) .bool=true by first|rfl|decide|simp[WShape.has,WShape.arms,WShape.armsAll])
  (show(WTm.eq .res (.lit (.bool true))).value [] {args:=args,res:=some (.bool true),after:=args}=some (.bool (true==true))from w_eq_bool (w_res rfl) w_lit) rfl
theorem Zji {l:OpenLaw}{n:Nat}{q:Program}{loose:List Str}{XP:(Str->Option Value)->Heap->Prop}{YP:World->Heap->Prop}{d:DefRec}
  (hn:l.most=some n) (hdf:d.params.defaults=[])
  (call:∀(w:World) (s₀ s₁:Shared) (mg mb:Str->Option Value) (fa:Addr) (o:Obj) (pm cd doc:Value) (a:Addr) (vs:List Value) (ns:List Int),
   Ground q loose [] XP w s₀ mg mb s₁.heap->YP w s₁.heap ->
   s₁.heap.get? fa=some o->o.data=.func (docDef d.name d.params d.body d.scope pm cd doc)->s₁.heap.CodeRec cd d.name->mg d.name=some (.ref fa) ->
   s₁.heap.get? a=some {cls:=.type "list",data:=.seq vs.toArray}->IntsAre vs ns->ns.length<=n->s₁.gens=#[] ->
   codeAny (model l.prog w) callerA (.call (.ref fa) ⟨[.ref a],[]⟩) (λr s'=>r=.ok (.ret (.bool true))/\OldK s₁.heap s'.heap/\s'.os=s₁.os/\AllBare s'.gens) s₁) :
  WalkO q loose XP YP l.row.toRowW d [] (λf vs=>PySem.call f vs):=by
 intro w s₀ s₁ mg mb G Y fa o pm cd doc dV kV ho hd hcd hD hmg hg args vals as hpre hlay hrd hwl hlo
 obtain rfl:dV=.none:=Dflts.none hD hdf
 obtain rfl:kV=.none:=Dflts.noKw hD
 obtain⟨a,vs,ns,rfl,rfl,hobj,hints,hlen⟩:=ZlO hn hpre hwl
 refine enter_call (codeAny_mono (call w s₀ s₁ mg mb fa o pm cd doc a vs ns G Y ho (fd_plain hd) hcd hmg hobj hints hlen hg) λr s' hq=>?_)
 obtain⟨rfl,h2,h3,h4⟩:=hq
 exact⟨.inl ⟨.bool true,.bool true,[],rfl,λ_=>rfl,.bool true,ZlP l _,λ_=>⟨List.Pairwise.nil,λ_ hm=>(nomatch hm)⟩⟩,h2,h3,h4⟩
end Att
namespace L2
open PySem PySem.Spec PyProof.Rows
theorem ZhZ:∀{vs:List Value}{ns:List Int},IntsAre vs ns->Vals (ns.map V.int) vs
 |_,_,.nil=>.nil
 |_,_,.cons n t h=>.cons ⟨t,rfl⟩ (ZhZ h)
noncomputable def defArgs (s:Stmt):Arguments:=match s with
 |.FunctionDef _ a _ _ _ _ _ _ _ _=>a
 |_=>{posonlyargs:=[],args:=[],vararg:=none,kwonlyargs:=[],kw_defaults:=[],kwarg:=none,defaults:=[]}
noncomputable def defBody (s:Stmt):List Stmt:=match s with
 |.FunctionDef _ _ b _ _ _ _ _ _ _=>b
 |_=>[]
noncomputable def defScope (s:Stmt):Scope:=match s with
 |.FunctionDef _ _ _ _ _ _ sc _ _ _=>sc
 |_=>{kind:=.function,names:=[],isGenerator:=false,isCoroutine:=false}
noncomputable abbrev E0:XK:=λ_ _ _=>False
structure Fun (K:PySem.W.Frag) (x qual:Str) (st:Stmt) (f:Addr) (fd:FuncData):Prop where
 ex:∃(oc:Value) (od:Option Addr) (kV doc pm:Value) (an:Option Addr) (cdv ct:Value) (osl:Array (Option Value)),
  fd=PySem.W.fnOf x qual (defArgs st) (defBody st) (defScope st) .none kV doc pm an cdv ct/\K.lookup f=some ⟨oc,od,.func fd,osl⟩/\PySem.W.codeIn K cdv qual=true
 kp:PySem.W.keepIn K (.ref f)=true
section
variable {P:Program}{w:World}{K:PySem.W.Frag}{mg:Str->Option Value}{base:Heap}
theorem Fun.binds {x qual:Str}{st:Stmt}{f:Addr}{fd:FuncData}{ps:List Str} (F:Fun K x qual st f fd)
  (h:∀(kV doc pm:Value) (an:Option Addr) (cdv ct:Value) (us:List Value),us.length=ps.length->bindArgs (PySem.W.fnOf x qual (defArgs st) (defBody st) (defScope st) .none kV doc pm an cdv ct) ⟨us,[]⟩=pure (ps.zip us)):Binds K fd ps []:=by
 obtain⟨oc,od,kV,doc,pm,an,cdv,ct,osl,rfl,lk,hcd⟩:=F.ex
 exact .all (h kV doc pm an cdv ct)
theorem ZI {x qual:Str}{st:Stmt}{f:Addr}{oc:Value}{od an:Option Addr}{osl:Array (Option Value)}{kV doc pm cdv ct:Value} (l:K.lookup f=some ⟨oc,od,.func (PySem.W.fnOf x qual (defArgs st) (defBody st) (defScope st) .none kV doc pm an cdv ct),osl⟩)
  (c:PySem.W.codeIn K cdv qual=true) (k:PySem.W.keepIn K (.ref f)=true):Fun K x qual st f (PySem.W.fnOf x qual (defArgs st) (defBody st) (defScope st) .none kV doc pm an cdv ct):=⟨⟨oc,od,kV,doc,pm,an,cdv,ct,osl,rfl,l,c⟩,k⟩
end
theorem Zjj {A:Around}{k:Nat} (hr:Room k A):A.units+1<cLine:=YA (Nat.add_le_add_left (by decide:1<=64) _) hr.units
section
variable {X:Cx}
theorem pv (i:Nat) {x:Str}{pos:Pos} (hN:X.N[i]?=some x:=by rfl) (hv:Vis X.env.scope x:=by first|exact Or.inl rfl|exact Or.inr (Or.inl rfl)|exact Or.inr (Or.inr rfl)) (hd:(x==("__debug__":Str))=false:=by decide)
  (hcd:(x==("__classdict__":Str))=false:=by decide):PE X (.Name x pos) (tVar i):=pe_var hN hv hd hcd
end
theorem iteT {A B:Prop} (h:A):if true=true then A else B:=by
 rw[Yd rfl]
 exact h
theorem Z5 {c A B:Prop} [Decidable c] (h1:c->A) (h2:¬ c->B):if c then A else B:=by
 by_cases h:c
 ·rw[Yd h]
  exact h1 h
 ·rw[Yb h]
  exact h2 h
noncomputable def Zg (H H':Hp):Prop:=∀b o,H b=some o->H' b=some o
theorem Zg.refl (H:Hp):Zg H H:=λ_ _ h=>h
theorem Zg.trans {H H1 H2:Hp} (a:Zg H H1) (b:Zg H1 H2):Zg H H2:=λc o h=>b c o (a c o h)
theorem Zg.free {H H':Hp} (e:Zg H H') {l:Addr} (h:H' l=Option.none):H l=Option.none:=by
 cases q:H l with
 |none=>rfl
 |some o =>
  rw[e l o q]at h
  cases h
theorem Zg.seq {K:PySem.W.Frag}{H H':Hp}{a:Addr}{xs:List V} (e:Zg H H') (h:SqL K H a xs):SqL K H' a xs:=by
 rcases h with(h|⟨o,h⟩)|h
 ·exact .inl (.inl (e _ _ h))
 ·exact .inl (.inr ⟨o,e _ _ h⟩)
 ·exact .inr h
theorem Zdq {env:Env}:∀(names:List (Str×NameKind)) (cs0:List (Str×Addr)),(∀y∈names,y.2=.free->∃c,env.cells.lookup y.1=some c) ->
  ∃cl,(forIn names cs0 (λ(x:Str×NameKind) r=>(do
   match x with
   |(name,kind)=>if (kind==NameKind.free)=true then do let a <-cellOf env name;pure (ForInStep.yield ((name,a)::r))else pure (ForInStep.yield r)):_->_->Sem (ForInStep (List (Str×Addr)))))=pure cl /\
   (∀p∈cl,p∈cs0\/env.cells.lookup p.1=some p.2)/\(∀p∈cs0,p∈cl)/\(∀y∈names,y.2=.free->∃c,(y.1,c)∈cl)
 |[],cs0,_=>⟨cs0,rfl,λp h=>.inl h,λp h=>h,λy h=>by cases h⟩
 |(n,k)::r,cs0,h=>by
  by_cases hk:k=.free
  ·subst hk
   obtain⟨c,hc⟩:=h (n,.free) (.head _) rfl
   obtain⟨cl,e,h1,h2,h3⟩:=Zdq r ((n,c)::cs0) λy hy=>h y (.tail _ hy)
   refine⟨cl,?_,λp hp=>?_,λp hp=>h2 p (.tail _ hp),λy hy hf=>?_⟩
   ·rw[List.forIn_cons]
    have e1:cellOf env n=pure c:=by unfold cellOf;rw[hc]
    simp only[beq_self_eq_true,if_true,e1,pure_bind]
    exact e
   ·rcases h1 p hp with q|q
    ·rcases Yk.mp q with q|q
     ·subst q;exact .inr hc
     ·exact .inl q
    ·exact .inr q
   ·rcases Yk.mp hy with q|q
    ·subst q;exact⟨c,h2 _ (.head _)⟩
    ·exact h3 y q hf
  ·obtain⟨cl,e,h1,h2,h3⟩:=Zdq r cs0 λy hy=>h y (.tail _ hy)
   refine⟨cl,?_,h1,h2,λy hy hf=>?_⟩
   ·rw[List.forIn_cons]
    have e1:(k==NameKind.free)=false:=by cases k<;>first|rfl|exact absurd rfl hk
    simp only[e1,Bool.false_eq_true,if_false,pure_bind]
    exact e
   ·rcases Yk.mp hy with q|q
    ·subst q;exact absurd hf hk
    ·exact h3 y q hf
theorem Zkq {env:Env}{scope:Scope} (h:∀y∈scope.names,y.2=.free->∃c,env.cells.lookup y.1=some c) :
  ∃cl,closureFor scope env=pure cl/\(∀x c,cl.lookup x=some c->env.cells.lookup x=some c)/\(∀y∈scope.names,y.2=.free->∃c,cl.lookup y.1=some c/\env.cells.lookup y.1=some c):=by
 obtain⟨cl,e,h1,h2,h3⟩:=Zdq (env:=env) scope.names [] h
 have up:∀x c,cl.lookup x=some c->env.cells.lookup x=some c:=λx c q=>by
  rcases h1 _ (PySem.mem_of_lookup q)with z|z
  ·cases z
  ·exact z
 refine⟨cl,?_,up,λy hy hf=>?_⟩
 ·unfold closureFor
  simp only[bind_pure_comp]at e⊢
  rw[e]
  exact pure_bind _ _
 ·obtain⟨c,hc⟩:=h3 y hy hf
  cases q:cl.lookup y.1 with
  |none=>exact absurd (List.lookup_eq_none_iff.mp q _ hc) (by simp)
  |some c'=>exact⟨c',rfl,up _ _ q⟩
noncomputable def compOk (around scope:Scope):Bool :=
 scope.kind==.function&&around.kind==.function&&scope.names.all λy=>match y.2 with
  |.local=>scope.names.lookup y.1==some .local
  |.cell=>false
  |.free=>(scope.names.lookup y.1==some .free)&&(around.names.lookup y.1==some .cell||around.names.lookup y.1==some .free)
  |_=>true
theorem Zjk {a s:Scope} (h:compOk a s=true):s.kind=.function:=by
 simp only[compOk,Bool.and_eq_true,beq_iff_eq]at h;exact h.1.1
theorem Zh0 {a s:Scope} (h:compOk a s=true) {y:Str×NameKind} (hy:y∈s.names):(match y.2 with
  |.local=>s.names.lookup y.1==some .local
  |.cell=>false
  |.free=>(s.names.lookup y.1==some .free)&&(a.names.lookup y.1==some .cell||a.names.lookup y.1==some .free)
  |_=>true)=true:=by
 simp only[compOk,Bool.and_eq_true]at h
 exact List.all_eq_true.mp h.2 y hy
theorem Zjl {a s:Scope} (h:compOk a s=true):∀y∈s.names,y.2≠.cell:=λy hy e=>by
 have q:=Zh0 h hy
 rw[e]at q
 cases q
theorem Zgb {a s:Scope} (h:compOk a s=true):∀y∈s.names,y.2=.free->a.names.lookup y.1=some .cell\/a.names.lookup y.1=some .free:=λy hy e=>by
 have q:=Zh0 h hy
 rw[e]at q
 simp only[Bool.and_eq_true,Bool.or_eq_true,beq_iff_eq]at q
 exact q.2
theorem Za6 {env:Env}:∀{names:List (Str×NameKind)}{x:Str}{k:NameKind},(names.map λ(n,k)=>if (k==NameKind.free&&env.scope.kind==.function&&env.kindOf n==some .cell)then (n,NameKind.cell)else (n,k)).lookup x=some k ->
  ∃k',names.lookup x=some k'/\(k=k'\/(k'=.free/\k=.cell))
 |[],_,_,h=>by simp at h
 |(n,k0)::r,x,k,h=>by
  by_cases hx:x=n
  ·subst hx
   refine⟨k0,by simp,?_⟩
   simp only[YC]at h
   split at h
   ·rename_i hc
    simp only[Bool.and_eq_true,beq_iff_eq]at hc
    simp only[List.lookup_cons_self,Option.some.injEq]at h
    exact .inr ⟨hc.1.1,h.symm⟩
   ·simp only[List.lookup_cons_self,Option.some.injEq]at h
    exact .inl h.symm
  ·have hb:(x==n)=false:=by simpa using hx
   simp only[YC]at h
   have e2:∀k1,((n,k1)::r).lookup x=r.lookup x:=λk1=>by simp[List.lookup_cons,hb]
   split at h<;>(simp only[List.lookup_cons,hb]at h;obtain⟨k',h1,h2⟩:=Za6 h;exact⟨k',by rw[e2];exact h1,h2⟩)
noncomputable def ZnP (X:Cx) (Nc:List Str) (scope:Scope) (cl:List (Str×Addr)) (C:Addr) (s2:Shared) (H2:Hp) (fp:List Addr):Cx where
 prog:=X.prog
 w:=X.w
 K:=X.K
 mg:=X.mg
 base:=X.base
 A:=X.A
 N:=Nc
 s₀:=s2
 H₀:=H2
 env:=compEnvC scope cl C X.env
 outer:=X.stack
 stack:=X.stack
 ex:=fp
 fn:=λ_=>false
 calm:=X.calm
 pn:=[]
 xe:=λ_ _=>False
noncomputable def iniC (js:List (Option Nat)) (σ:St):St:=js.map λj=>match j with
 |none=>none
 |some i=>(σ[i]?).join
noncomputable def Zbi (N Nc:List Str) (scope:Scope):List (Option Nat)->Nat->Bool
 |[],i=>i==Nc.length
 |none::r,i=>Zbi N Nc scope r (i+1)
 |some j::r,i=>(match Nc[i]?,N[j]? with
  |some x,some y=>x==y&&scope.names.lookup x==some .free
  |_,_=>false)&&Zbi N Nc scope r (i+1)
theorem ZeX {N Nc:List Str}{scope:Scope}:∀{js:List (Option Nat)}{i:Nat},Zbi N Nc scope js i=true->i+js.length=Nc.length
 |[],i,h=>by simpa[Zbi]using h
 |none::r,i,h=>by
  have:=ZeX (js:=r) (i:=i+1) (by simpa[Zbi]using h)
  simp only[YK];omega
 |some j::r,i,h=>by
  simp only[Zbi,Bool.and_eq_true]at h
  have:=ZeX (js:=r) (i:=i+1) h.2
  simp only[YK];omega
theorem ZfF {N Nc:List Str}{scope:Scope}:∀{js:List (Option Nat)}{i k j:Nat},Zbi N Nc scope js i=true->js[k]?=some (some j)->∃x,Nc[i+k]?=some x/\N[j]?=some x/\scope.names.lookup x=some .free
 |[],i,k,j,h,e=>by simp at e
 |none::r,i,0,j,h,e=>by simp at e
 |none::r,i,k+1,j,h,e=>by
  obtain⟨x,h1,h2,h3⟩:=ZfF (js:=r) (i:=i+1) (k:=k) (j:=j) (by simpa[Zbi]using h) (by simpa using e)
  exact⟨x,by rw[<-h1];congr 1;omega,h2,h3⟩
 |some j0::r,i,0,j,h,e=>by
  simp only[Zbi,Bool.and_eq_true]at h
  simp only[List.getElem?_cons_zero,Option.some.injEq]at e
  subst e
  cases e1:Nc[i]? with
  |none=>rw[e1]at h;simp at h
  |some x =>
   cases e2:N[j0]? with
   |none=>rw[e1,e2]at h;simp at h
   |some y =>
    rw[e1,e2]at h
    simp only[Bool.and_eq_true,beq_iff_eq]at h
    exact⟨x,by simpa using e1,by rw[h.1.1],h.1.2⟩
 |some j0::r,i,k+1,j,h,e=>by
  simp only[Zbi,Bool.and_eq_true]at h
  obtain⟨x,h1,h2,h3⟩:=ZfF (js:=r) (i:=i+1) (k:=k) (j:=j) h.2 (by simpa using e)
  exact⟨x,by rw[<-h1];congr 1;omega,h2,h3⟩
section
variable {X:Cx}
theorem lookup_mem {names:List (Str×NameKind)}{x:Str}{k:NameKind} (h:names.lookup x=some k):(x,k)∈names:=PySem.mem_of_lookup h
theorem Zd7 {prog:Program}{w:World}{A:Around}{R:Result->Shared->Prop}{s:Shared}{elt target iter:Expr}{ifs:List Expr}{scope:Scope}{pos:Pos}{it acc:Value}{env:Env} (I:Nat->Shared->Prop)
  (turn:∀n s,I n s->wpAny (model prog w) A (pyNext it) (λr s₁=>match r with
   |none=>R (.ok .next) s₁
   |some v=>wpAny (model prog w) A (letOwnedTupleGo target it v) (λ_ s₁=>wpAny (model prog w) A (assign target env v) (λ_ s₂ =>
     wpAny (model prog w) A (forIn ifs true λc r=>if r=true then do let ok <-isTrue c env (eval c env);pure (ForInStep.yield ok)else pure (ForInStep.yield r)) (λok s₃ =>
      if ok=true then wpAny (model prog w) A (eval elt env) (λx s₄ =>
       wpAny (model prog w) A (call (.builtin "list.append") [acc,x]) (λ_ s₅=>∃m,m<n/\I m s₅) (λ_ _=>False) s₄) (λ_ _=>False) s₃
      else ∃m,m<n/\I m s₃) (λ_ _=>False) s₂) (λ_ _=>False) s₁) (λ_ _=>False) s₁) (λ_ _=>False) s)
  (n:Nat) (h:I n s) :
  codeAny (model prog w) A (.compLoop (.ListComp elt [⟨target,iter,ifs,0⟩] scope pos) 0 it acc env) R s:=by
 refine codeAny_loop rfl I (λn s hI=>?_) n h
 show wpAny _ A ((compTurn (.ListComp elt [⟨target,iter,ifs,0⟩] scope pos) 0 it acc env).onRaise (λx=>do noteFrame x env;theTreesLotGoes x)) _ _ s
 refine wpAny_noted ?_
 rw[compTurn_list]
 refine Ya (wpAny_standAt (Ya (YG (turn n s hI) (λr s₁ h₁=>?_) λ_ _ h'=>h'.elim)))
 cases r with
 |none=>exact Yc h₁
 |some v =>
  refine Ya (YG h₁ (λ_ s₁' h₁=>?_) λ_ _ h'=>h'.elim)
  refine Ya (YG h₁ (λ_ s₂ h₂=>Ya (YG h₂ (λok s₃ h₃=>?_) λ_ _ h'=>h'.elim)) λ_ _ h'=>h'.elim)
  cases ok with
  |false=>exact Yc ⟨rfl,h₃⟩
  |true =>
   exact Ya (Ya (YG h₃ (λx s₄ h₄=>Ya (YG h₄ (λ_ s₅ h₅=>Yc (Yc ⟨rfl,h₅⟩)) λ_ _ h'=>h'.elim)) λ_ _ h'=>h'.elim))
noncomputable def ZlQ (X:Cx) (ifs:List Expr) (t:TT):Prop :=
 ∀(pins:List (Addr×Obj)) (s:Shared) (σ:St) (H:Hp) (Q:Bool->Hp->Prop),Inv X pins σ H s->t σ H Q ->
  wpAny (model X.prog X.w) X.A (forIn ifs true λc r=>if r=true then do let ok <-isTrue c X.env (eval c X.env);pure (ForInStep.yield ok)else pure (ForInStep.yield r)) (TP X pins σ Q) X.xe s
noncomputable def tYes:TT:=λ_ H Q=>Q true H
theorem ZbR:ZlQ X [] tYes:=λpins s σ H Q I h=>wpAny_tests_nil ⟨H,I,h⟩
theorem Zd8 {c:Expr}{t:TT} (h:PT X c t):ZlQ X [c] t:=λpins s σ H Q I hq=>wpAny_tests_one (h pins s σ H Q I hq)
noncomputable def ZcZ (L:List Nat) (σ σ':St):Prop:=σ'.length=σ.length/\∀k,k∉L->σ'[k]?=σ[k]?
noncomputable def Zh1 (g:TG) (L:List Nat):Prop:=∀v σ H (Q Q':St->Hp->Prop),(∀σ' H',ZcZ L σ σ'->Q σ' H'->Q' σ' H')->g v σ H Q->g v σ H Q'
noncomputable def ZiC (g:TGs) (L:List Nat):Prop:=∀v σ H (Q Q':St->Hp->Prop),(∀σ' H',ZcZ L σ σ'->Q σ' H'->Q' σ' H')->g v σ H Q->g v σ H Q'
theorem ZcZ.refl {L:List Nat}{σ:St}:ZcZ L σ σ:=⟨rfl,λ_ _=>rfl⟩
theorem ZcZ.trans {L L':List Nat}{a b c:St} (x:ZcZ L a b) (y:ZcZ L' b c):ZcZ (L++L') a c :=
 ⟨y.1.trans x.1,λk hk=>(y.2 k λz=>hk (Yv _ z)).trans (x.2 k λz=>hk (YI _ z))⟩
theorem ZH {i:Nat}:Zh1 (gName i) [i]:=λv σ H Q Q' hq h=>hq _ _ ⟨by simp,λk hk=>by
 rw[List.getElem?_set_ne]
 intro z;subst z;exact hk (by simp)⟩ h
theorem ZgQ:ZiC gNil []:=λv σ H Q Q' hq h=>⟨h.1,hq _ _ ZcZ.refl h.2⟩
theorem Zcv {t:TG}{u:TGs}{L L':List Nat} (h1:Zh1 t L) (h2:ZiC u L'):ZiC (gCons t u) (L++L'):=λv σ H Q Q' hq h=>by
 obtain⟨x,r,e,h⟩:=h
 exact⟨x,r,e,h1 _ _ _ _ _ (fun σ' H' k1 q=>h2 _ _ _ _ _ (fun σ2 H2 k2 q2=>hq _ _ (k1.trans k2) q2) q) h⟩
theorem ZgR {K:PySem.W.Frag}{n:Nat}{t:TGs}{L:List Nat} (h:ZiC t L):Zh1 (gTup K n t) L:=λv σ H Q Q' hq q=>by
 obtain⟨a,xs,e1,e2,e3,q⟩:=q
 exact⟨a,xs,e1,e2,e3,h _ _ _ _ _ hq q⟩
noncomputable def Zlh (wi:TI) (g:TG) (tt:TT) (te:TE) (js:List (Option Nat)):TE:=fun σ H Q=>wi σ H λJ H1=>∃W:Nat->Nat->List V->Hp->Prop,(∃m,W 0 m [] H1)/\∀i m acc H,W i m acc H ->
 (J.stop i H/\acc.length<=sizeLine/\∀p,H p=none->Q (.ref p) (upd H p (.lst acc))) \/
 (J.go i H/\acc.length<sizeLine/\∀x H',J.yld i H x H'->g x (iniC js σ) H' fun σ2 H2=>tt σ2 H2 λb H3=>if b=true then te σ2 H3 λv H4=>∃m',m'<m/\W (i+1) m' (acc++[v]) H4 else ∃m',m'<m/\W (i+1) m' acc H3)
theorem ZiD {C:Addr}{h:Heap}:Heap.SameBut C h h:=by
 first|exact Heap.SameBut.refl|exact⟨rfl,λ_ _=>rfl⟩
end
end L2
namespace L2
open PySem PySem.Spec PyProof.Rows PySem.W PySem.Builtin.ObjectAttr PySem.Builtin.Getset_descriptor
noncomputable def Zjm (x C:Addr) (h:Heap):Prop:=∃o,h.get? x=some o/\o.cls=.ref C
structure ExK (K:Frag) (C:Addr):Prop where
 dk:hasDictIn K C=true
 ga:findIn K (.ref C) "__getattribute__"=some (some (.builtin "BaseException.__getattribute__"))
 gt:findIn K (.ref C) "__getattr__"=some none
 cl:findIn K (.ref C) "__class__"=some (some (.builtin "object.__class__"))
 gg:specialIn K (.builtin "object.__class__") "__get__"=some (some (.builtin "getset_descriptor.__get__"))
 tk:takesIn K (.builtin "object.__class__")=some true
 mo:mroIn K C (.type "object")=some true
 mb:mroIn K C (.type "BaseException")=some true
section
variable {K:Frag}{x C:Addr}
theorem Zjm.type {M:Model}{h:Heap} (I:Zjm x C h):Looks M h (typeOf (.ref x)) (.ref C):=by
 obtain⟨o,e,c⟩:=I
 exact c▸(Looks.ld e).andThen .now
theorem ZnQ {M:Model}{h:Heap} (X:K.In h) (Z:ExK K C):Looks M h (find (.ref x) (.ref C) "__class__") (.bind (.builtin "getset_descriptor.__get__") (.builtin "object.__class__")):=by
 have L3:=looks_takesIn (M:=M) X Z.tk
 exact(looks_findIn (M:=M) X Z.cl).andThen ((looks_specialIn X Z.gg).andThen
  ((show Looks M h (dataDescriptor? (some (.builtin "object.__class__")) (some (.builtin "getset_descriptor.__get__"))) (some (.builtin "getset_descriptor.__get__",.builtin "object.__class__"))from L3.andThen .now).andThen (Looks.tag .now)))
theorem Zpt {prog:Program}{w:World}{A:Around}{R:Result->Shared->Prop}{s:Shared}{tp:Value} (X:K.In s.heap) (I:Zjm x C s.heap) (Z:ExK K C) (hR:R (.ok (.ret (.ref C))) s) :
  codeAny (model prog w) A (.call (.builtin "getset_descriptor.__get__") ⟨[.builtin "object.__class__",.ref x,tp],[]⟩) R s:=by
 obtain⟨hp,gn,dw,tk,os⟩:=s
 have L0:=I.type (M:=model prog w)
 have L1:=looks_mroIn (M:=model prog w) X Z.mo
 refine codeAny_call_builtin KF.slot_gs.plain KF.entry_gs (KF.slot_gs.check _ _ _ _ _ _ _ _ KF.type_class (KF.args_gs _ _ _) ?_)
 unfold Builtin.«getset_descriptor.__get__» descrGet;rw[dga_obj];refine Ya (Yc ?_)
 unfold descrGetter descrCheckInstance descrNameAndClass isInstance;simp only[KF.owner_class]
 repeat lk
 refine⟨Code.quiet_builtin _ (by decide +kernel),codeAny_builtin KF.entry_class ?_⟩;unfold Builtin.«object.__class__» shownTypeOf
 repeat lk
 exact hR
theorem ZlR {prog:Program}{w:World}{A:Around}{E:Value->Shared->Prop}{s:Shared}{tk:Tok}{Q:Fin->Shared->Prop} (X:K.In s.heap) (I:Zjm x C s.heap) (Z:ExK K C) (hQ:Q (.done (.ret (.ref C))) s) :
  wpAny (model prog w) A (Builtin.«object.__getattribute__» ⟨[.ref x,.str "__class__" tk],[]⟩) Q E s:=by
 obtain⟨hp,gn,dw,t,os⟩:=s
 have L0:=I.type (M:=model prog w)
 have L2:=ZnQ (M:=model prog w) (x:=x) X Z
 unfold Builtin.«object.__getattribute__»
 refine Ya (Yc (Ya (Yc (Ya (L0.at (Ya (L2.at ?_)))))))
 show wpAny _ _ (holding _ (call _ _) >>= ret) _ _ _
 exact Ya (wpAny_holding (wpAny_call (Zpt (s:=⟨hp,gn,dw,t,os⟩) X I Z (Yc hQ))))
theorem ZlS {M:Model}{A:Around}{E:Value->Shared->Prop}{s:Shared}{nameV:Value}{Q:Unit->Shared->Prop} (X:K.In s.heap) (I:Zjm x C s.heap) (Z:ExK K C) (hq:Q () s) :
  wpAny M A (checkBuiltinCall "BaseException.__getattribute__" ⟨[.ref x,nameV],[]⟩) Q E s:=by
 obtain⟨hp,gn,dw,t,os⟩:=s
 have hk:builtinKind "BaseException.__getattribute__"=some .slot:=by decide +kernel
 have hsplit:splitId "BaseException.__getattribute__"=some ("BaseException","__getattribute__"):=by decide +kernel
 have L0:=I.type (M:=M)
 have L1:=looks_mroIn (M:=M) X Z.mb
 have ha:=F.args_bexc_ga (.ref x) nameV
 simp only[checkBuiltinCall,hk,hsplit]
 refine Ya ?_
 unfold isInstance
 refine Ya (L0.at (L1.at ?_))
 repeat (first|assumption|wp_step)
theorem ZlT {prog:Program}{w:World}{A:Around}{E:Value->Shared->Prop}{s:Shared}{Q:Option Value->Shared->Prop} (X:K.In s.heap) (I:Zjm x C s.heap) (Z:ExK K C) (hQ:Q (some (.ref C)) {s with toks:=s.toks+1}) :
  wpAny (model prog w) A (getAttr? (.ref x) "__class__") Q E s:=by
 obtain⟨hp,gn,dw,tk,os⟩:=s
 have L0:=I.type (M:=model prog w)
 have L1:=looks_findIn (M:=model prog w) X Z.ga
 have L3:=looks_findIn (M:=model prog w) X Z.gt
 have hb:=(F.attrBase_ValueError.ga).bind (.ref x)
 unfold getAttr? getAttrBy? getAttrBy;refine Ya (wpAny_mkText (Ya (wpAny_attempt (wpAny_holding (Ya (L0.at (Ya (L1.at ?_))))))))
 show wpAny _ _ (getAttrByItsOwn _ _ _ _ _ _) _ _ _
 unfold getAttrByItsOwn hookBefore
 refine Ya (L3.at ?_)
 refine Ya (wpAny_attempt (wpAny_holding ?_))
 unfold callGetattribute
 show wpAny _ _ (boundAndCalled _ _ _) _ _ _
 unfold boundAndCalled
 rw[hb]
 refine Ya (Yc ?_)
 refine wpAny_call ?_
 refine codeAny_call_builtin F.attrBase_ValueError.ga.plain F.entry_bexc_ga (ZlS (s:=⟨hp,gn,dw,tk+1,os⟩) X I Z (ZlR (s:=⟨hp,gn,dw,tk+1,os⟩) X I Z ?_))
 exact handed_on rfl (Yc hQ)
theorem Zpu (Z:ExK K C):KitX K (.ref x) (.ref C) (Zjm x C) where
 ty:=λ_ _ _ I=>I.type
 it:=λ_ _ X _=>by
  obtain⟨cdD,hcD,_⟩:=any_some Z.dk
  unfold clsIn at hcD
  split at hcD
  ·rename_i c' d' cd' sl' ho
   intro A' Q' E' s' k q
   unfold isType loadHead;exact Ya (wpAny_loadPart (k _ _ (X _ _ ho)) (Yc q))
  ·cases hcD
 ne:=λh tp dd its n sl X htp=>by
  obtain⟨cdD,hcD,_⟩:=any_some Z.dk
  refine Bool.eq_false_iff.mpr λq=>?_
  have e:C=tp:=Value.ref.inj (beq_iff_eq.mp q);subst e
  unfold clsIn at hcD
  split at hcD
  ·rename_i c' d' cd' sl' ho
   have z:=(X _ _ ho).symm.trans htp;cases z
  ·cases hcD
 ca:=λX I k=>ZlT X I Z k
end
noncomputable def ExcO (e C:Addr):HO:=.ext (Zjm e C)
noncomputable def tyIs (K:Frag) (H:Hp) (x:V) (c:Value) (b:Bool):Prop :=
 (∃t,TyOf K H x t/\kitOne K t c=some b)\/∃e C,x=.ref e/\H e=some (ExcO e C)/\ExK K C/\kitOne K (.ref C) c=some b
noncomputable def cOf:V->Option Value
 |.ref a=>some (.ref a)
 |.ty n=>some (.type n)
 |_=>none
section
variable {X:Cx}
noncomputable def rIsi (K:Frag):List V->Hp->VK->Prop:=λxs H Q=>∃x v c b,xs=[x,v]/\cOf v=some c/\tyIs K H x c b/\Q (.bl b) H
theorem ZnR:Zcz X (.builtin "isinstance") (rIsi X.K):=by
 intro pins s σ H xs us Q I r h
 obtain⟨x,v,c,b,rfl,hc,ht,q⟩:=h
 obtain⟨u,u2,rfl,ru,ru2⟩:=r.two
 have e2:u2=c:=by
  cases v with
  |ref a=>have:=(show u2=Value.ref a from ru2);cases hc;exact this
  |ty n=>have:=(show u2=Value.type n from ru2);cases hc;exact this
  |_=>cases hc
 subst e2
 have fin:∀tk,EP X pins σ Q (.bool b) {s with toks:=tk}:=λtk=>⟨.bl b,H,I.tok tk,rfl,q⟩
 rcases ht with⟨t,ty,e⟩|⟨e,C,rfl,hH,Z,e1⟩
 ·exact ZlL I ru ty e fin
 ·cases(show u=Value.ref e from ru)
  obtain⟨p,_,_⟩:=(show ZO X.prog X.w H s.heap e (ExcO e C)from I.hok e _ hH)
  exact kia_one (Zpu Z) I.kIn p e1 (λz=>nomatch z) fin
end
end L2
namespace L2
open PySem PySem.Spec PyProof.Rows
structure Fly (P:Program) (w:World) (outer:List Env) (H:Hp) (s:Shared) (H':Hp) (B:Heap) (e:Addr) (C a0:Value) (s':Shared):Prop where
 os:s'.os=s.os
 bare:AllBare s'.gens
 fly:Heap.FlyingW B outer e C a0 s'.heap
 hok:HOk P w H' B
 keep:∀b o,s.heap.get? b=some o->H b=none->b∉frs outer->B.get? b=some o
 slot:∀b o,s.heap.get? b=some o->b∈frs outer->(∀vs,o.data≠.fields vs)->∃sl,s'.heap.get? b=some {o with slots:=sl}
 free:∀b o,s.heap.get? b=some o->H b=none->H' b=none
 there:∀b o,s.heap.get? b=some o->b∉frs outer->∃o',B.get? b=some o'
 tups:∀b xs,H b=some (.tup xs)->H' b=some (.tup xs)
 frzs:∀b o u,H b=some (.frz o u)->H' b=some (.frz o u)
 tbls:∀b ps,H b=some (.tbl ps)->∃more,H' b=some (.tbl (ps++more))
noncomputable def CXE (P:Program) (w:World):CXT:=λouter H s E ev s'=>∃e C a0 H' B,ev=.ref e/\Fly P w outer H s H' B e C a0 s'/\E C none H'
theorem Zv {P:Program}{w:World}{X:Cx}:Passes (CXE P w) X E0:=λ_ _ _ _ _ _ _ ⟨_,_,_,_,_,_,_,z⟩=>z.elim
section
variable {P:Program}{w:World}{K:PySem.W.Frag}{mg:Str->Option Value}{base:Heap}{N:List Str}{qual:Str}{scope:Scope}{f:Addr}{cd:Value}{A:Around}{outer:List Env}{s:Shared}{H:Hp}{E:XK}
theorem ZiE {pins:List (Addr×Obj)}{σ:St}{H1:Hp}{s1:Shared}{h':Heap}{e:Addr}{C:Value}{vs:List Value} (I:Inv (ZeW (CXE P w) P w K mg base N qual scope f cd A outer s H E) pins σ H1 s1)
  (hx:Heap.MadeExcOf s1.heap h' e C vs) (hE:E C none H1):(ZeW (CXE P w) P w K mg base N qual scope f cd A outer s H E).xe (.ref e) {s1 with heap:=h'}:=by
 let env:=envOfC qual scope s.heap.objs.size f cd
 let B:=PySem.W.hideAll s1.heap (frs (env::outer))
 have hin:∀en∈(env::outer),∀b,en.frame=some b->b∈frs (env::outer):=λen he b hb=>List.mem_filterMap.mpr ⟨en,he,hb⟩
 have st:s1.heap.FunFrames base (env::outer):=I.stack
 have loc:∀b,b∈frs (env::outer)->b=s.heap.objs.size\/b∈frs outer:=λb hb=>Yk.mp (I.ZeS b hb)
 have old:∀b o,s.heap.get? b=some o->b∉frs outer->b∉frs (env::outer):=λb o q nb hb=>by
  rcases loc b hb with z|z
  ·exact absurd (Yh q) (by rw[z];exact Yu _)
  ·exact nb z
 have un:Un (frs outer) [] H H1 s.heap s1.heap:=I.base
 have hokB:HOk P w H1 B:=λa o q=>by
  have nf:∀b o,H1 b=some o->b∉frs (env::outer):=λb o z hb=>by
   have:=I.Ziq b hb
   rw[this]at z;cases z
  refine(I.hok a o q).Zgp (λb u hb z=>?_) (λ_ z=>z) (λ_ _ z=>z) λ_ _ _ z=>z
  rcases hb with hb|hb
  ·rw[hb]at z⊢;exact PySem.W.hideAll_get _ z (nf a o q)
  ·exact PySem.W.hideAll_get _ z (nf b _ hb)
 refine wpAny_leaves_madeW (base:=B) (h:=s1.heap) (env:=env) (outer:=outer) (L:=s.heap.objs.size) I.ok.frames rfl (λb o q=>PySem.W.of_hideAll _ q) (PySem.W.funFrames_hide st hin) hx λh2 t x1 x2 x3 x4=>?_
 refine⟨e,C,.ref t,H1,B,rfl,⟨I.os,I.bare,x1,hokB,λb o q n nb=>?_,λb o q hb hd=>?_,λb o q n=>un.free b o q n (by simp),λb o q nb=>?_,un.tups,un.frzs,un.tbls⟩,hE⟩
 ·exact PySem.W.hideAll_get _ (un.keep b o q n nb (by simp)) (old b o q nb)
 ·obtain⟨sl,z⟩:=un.slot b o q (I.ok.frf b hb) hb (by simp)
  obtain⟨sl2,z2⟩:=x4 b _ (hx.keeps _ _ z) hd
  exact⟨sl2,z2⟩
 ·obtain⟨o',z⟩:=un.there b o q (by simp)
  exact⟨o',PySem.W.hideAll_get _ z (old b o q nb)⟩
theorem ZiF:Passes (CXE P w) (ZeW (CXE P w) P w K mg base N qual scope f cd A outer s H E) E:=by
 intro pins σ H1 s1 ev s2 I h
 obtain⟨e,C,a0,H',B,rfl,F,hE⟩:=h
 let env:=envOfC qual scope s.heap.objs.size f cd
 have un:Un (frs outer) [] H H1 s.heap s1.heap:=I.base
 have loc:∀b,b∈frs (env::outer)->b=s.heap.objs.size\/b∈frs outer:=λb hb=>Yk.mp (I.ZeS b hb)
 have old:∀b o,s.heap.get? b=some o->b∉frs outer->b∉frs (env::outer):=λb o q nb hb=>by
  rcases loc b hb with z|z
  ·exact absurd (Yh q) (by rw[z];exact Yu _)
  ·exact nb z
 refine wpAny_leaves_onW (env:=env) (outer:=outer) (L:=s.heap.objs.size) I.ok.frames rfl F.fly λh2 x1 x2=>?_
 refine⟨e,C,a0,H',B,rfl,⟨F.os.trans I.os,F.bare,x1,F.hok,λb o q n nb=>F.keep b o (un.keep b o q n nb (by simp)) (un.free b o q n (by simp)) (old b o q nb),λb o q hb hd=>?_,λb o q n=>?_,λb o q nb=>?_,λb xs z=>F.tups b xs (un.tups b xs z),λb o u z=>F.frzs b o u (un.frzs b o u z),λb ps z=>?_⟩,hE⟩
 ·obtain⟨sl,z⟩:=un.slot b o q (I.ok.frf b hb) hb (by simp)
  obtain⟨en,he,hf⟩:=List.mem_filterMap.mp hb
  obtain⟨sl2,z2⟩:=F.slot b _ z (List.mem_filterMap.mpr ⟨en,.tail _ he,hf⟩) hd
  obtain⟨sl3,z3⟩:=x2 b _ z2 hd
  exact⟨sl3,z3⟩
 ·by_cases hb:b∈frs outer
  ·have h1:H1 b=none:=un.free b o q n (by simp)
   obtain⟨sl,z⟩:=un.slot b o q n hb (by simp)
   exact F.free b _ z h1
  ·exact F.free b o (un.keep b o q n hb (by simp)) (un.free b o q n (by simp))
 ·obtain⟨o',z⟩:=un.there b o q (by simp)
  exact F.there b o' z (old b o q nb)
 ·obtain⟨m1,z1⟩:=un.tbls b ps z
  obtain⟨m2,z2⟩:=F.tbls b _ z1
  exact⟨m1++m2,by rw[<-Array.append_assoc];exact z2⟩
end
abbrev bmV:List Value:=[.type "ValueError",.type "Exception",.type "BaseException",.type "object"]
abbrev newV:String:="ValueError.__new__"
theorem own_mk {K:PySem.W.Frag}{h:Heap}{mg:Str->Option Value}{x:Str}{C:Addr} (X:K.In h) (hm:mg x=some (.ref C)) (q:PySem.W.excIn K C bmV newV=true):OwnCls x C bmV newV mg h:=by
 refine⟨hm,?_⟩
 unfold PySem.W.excIn at q;split at q
 ·rename_i dd cd sl ho
  split at q
  ·rename_i C' bm k0 k1 k2 k3 n k5 hmm hs
   simp only[Bool.and_eq_true,beq_iff_eq,Bool.not_eq_true']at q;obtain⟨⟨⟨⟨⟨rfl,rfl⟩,hdel⟩,ht⟩,hok⟩,hni⟩:=q
   obtain⟨nm,bs,mro,ns,qn,hd,sn,sub,ab,col,del⟩:=cd;dsimp only at hmm hdel hok hni;subst hmm hdel
   have hsl:sl=#[k0,k1,k2,k3,some (.builtin newV),k5]:=by obtain⟨l⟩:=sl;simp only at hs;rw[hs]
   subst hsl;exact⟨bm,ns,nm,qn,bs,hd,sn,sub,ab,col,dd,k0,k1,k2,k3,k5,_,X _ _ ho,.of_isNs (PySem.W.isNs_of_in X hok),PySem.W.nsMap_none_of_in X hok hni,PySem.W.tail_of_in X ht⟩
  ·cases q
 ·cases q
section
variable {X:Cx}
noncomputable def tRaise (C:Addr) (E:XK) (t:TA):TS:=λ_ σ H=>t σ H λvs H1=>vs.length<=sizeLine/\E (.ref C) none H1
theorem ZnS {x:Str}{C:Addr}{np cpos pos:Pos}{e0:Expr}{es:List Expr}{t:TA}{E:XK} (hc:X.calm=true) (hg:Gl X x) (hm:X.mg x=some (.ref C)) (q:PySem.W.excIn X.K C bmV newV=true) (ha:PA X (e0::es) t)
  (hx:∀pins σ H s h' e vs,Inv X pins σ H s->Heap.MadeExcOf s.heap h' e (.ref C) vs->E (.ref C) none H->X.xe (.ref e) {s with heap:=h'})
  (he:starEach (e0::es) X.env=(false,eval e0 X.env)::starEach es X.env:=by rfl) (hpl:(backTo cpos (starEach es X.env)).any (·.1)=false:=by rfl) (hd:(x==("__debug__":Str))=false:=by decide) :
  PS X (.Raise (some (.Call (.Name x np) (e0::es) [] cpos)) none pos) (tRaise C E t):=by
 intro pins s σ H D I h
 obtain⟨tl,Nn,nm,qn,bs,hdct,sn,sub,ab,col,dd,k0,k1,k2,k3,k5,mN,hC,hN,hni,T⟩:=(own_mk (x:=x) I.mod.kin hm q).obj
 refine wpAny_Raise_call_subT (C:=C) (nm:=nm) (q:=qn) (N:=Nn) (bs:=bs) (bm:=tl) (hdct:=hdct) (sn:=sn) (sub:=sub) (ab:=ab) (col:=col) (dd:=dd) (k0:=k0) (k1:=k1) (k2:=k2) (k3:=k3) (k5:=k5)
  PySem.F.excBase_ValueError (mN:=mN) (T.hasType PySem.F.excBase_ValueError.hasBase) (I.ok.hd hc) (by rw[he];show(false||(backTo cpos (starEach es X.env)).any (·.1))=false;rw[hpl];rfl) hni (Zir I hg hm ⟨rfl,?_⟩ hd)
 have h2:=ha cpos pins s σ H _ I h
 rw[he]at h2⊢
 exact Calls.evalArgs_plain (thn h2 λus s2 ⟨vs,H2,I2,r,z,q2⟩=>⟨rfl,by rw[<-r.length];exact z,I2.bk _ _ hC,hN.keeps I2.bk,T.keeps I2.bk,λh' e hm'=>hx pins σ H2 s2 h' e us I2 hm' q2⟩)
end
section
variable {P:Program}{w:World}{K:PySem.W.Frag}{mg:Str->Option Value}{base:Heap}
theorem Fun.okX {x qual:Str}{st:Stmt}{f:Addr}{fd:FuncData}{N ps:List Str}{k:Nat}{sp:Sp} (F:Fun K x qual st f fd) (S:FnScope N ps (defScope st)) (len:∀vs H Q E,sp vs H Q E->vs.length=ps.length)
  (hbody:∀(cdv:Value) (A:Around) (outer:List Env) (s:Shared) (H:Hp) (vs:List V) (Q:VK) (E:XK),Room k (A.deeper (envOfC qual (defScope st) s.heap.objs.size f cdv))->sp vs H Q E ->
   ∃t,PSs (ZeW (CXE P w) P w K mg base N qual (defScope st) f cdv A outer s H E) (defBody st) t/\t {nx:=λ_ H'=>Q .non H',rt:=Q} (start N vs) H):FnOk P w K mg base (CXE P w) (k+1) f fd ps sp:=by
 obtain⟨oc,od,kV,doc,pm,an,cdv,ct,osl,rfl,lk,hcd⟩:=F.ex
 exact ZnJ lk hcd S len λA outer s H vs Q E hr hsp=>hbody cdv A outer s H vs Q E hr hsp
end
end L2
namespace L2
open PySem PySem.Spec PyProof.Rows PySem.W
theorem ZiG:∀{ns:List Int}{us:List Value},Vals (ns.map V.int) us->∃xs:Array (Int×Tok),us.toArray=intItems xs/\xs.toList.map (·.1)=ns
 |[],_,.nil=>⟨#[],by simp[intItems],rfl⟩
 |n::ns,_,.cons (b:=u) r t=>by
  obtain⟨tk,rfl⟩:=(show ∃t,u=Value.int n t from r)
  obtain⟨xs,e1,e2⟩:=ZiG t
  refine⟨#[(n,tk)]++xs,?_,by simp[e2]⟩
  have:∀(l:List Value),(Value.int n tk::l).toArray=#[Value.int n tk]++l.toArray:=λl=>by simp
  rw[this,e1]
  simp[intItems]
section
variable {X:Cx}
theorem Zbj:OpR X (binaryOp .Mult) (rI IntMulOk λi j=>.int (i*j)):=opI λ_ _ _ _ _ _ _ hc q=>mul_int q hc
noncomputable def PJ (X:Cx) (es:List (Sem Value)) (t:St->Hp->(Hp->Prop)->Prop):Prop :=
 ∀(out:Str) (pins:List (Addr×Obj)) (s:Shared) (σ:St) (H:Hp) (Q:Hp->Prop),out.length+2000*es.length<=100000->Inv X pins σ H s->t σ H Q ->
  wpAny (model X.prog X.w) X.A (joinParts out es) (λu s'=>∃y tk H',u=.str y tk/\Inv X pins σ H' s'/\Q H') X.xe s
theorem pj_nil:PJ X [] (λ_ H Q=>Q H):=λout pins s σ H Q hl I h =>
 joinParts_nil ⟨out,_,H,rfl,I.tok _,h⟩ (by simp at hl;exact Yj hl (by decide))
theorem ZiH {x:Str}{j:Nat}{pos:Pos}{es:List (Sem Value)}{t:St->Hp->(Hp->Prop)->Prop} (hx:x.length<=2000) (h:PJ X es t):PJ X (eval (.Constant (.str x) j pos) X.env::es) t:=by
 intro out pins s σ H Q hl I hq
 have hl':(out++x).length+2000*es.length<=100000:=by rw[PySem.strLen_append];simp at hl;omega
 refine joinParts_cons (Calls.Constant_str ⟨Yj (Yj (Nat.le_add_right _ _) hl') (by decide),?_⟩)
 exact h _ pins _ σ H Q hl' (I.tok _) hq
theorem ZlU {i:Int} (h0:0<=i) (h1:i<10 ^ 18):i.natAbs.log2<1920:=by
 by_cases hz:i.natAbs=0
 ·rw[hz];decide
 ·have h3:i.natAbs<2 ^ 60:=by
   have:(2:Nat) ^ 60=1152921504606846976:=by decide
   have h2:(10:Int) ^ 18=1000000000000000000:=by decide
   omega
  exact Ym ((Nat.log2_lt hz).mpr h3) (by decide)
theorem ZnT {e:Expr}{pos:Pos}{es:List (Sem Value)}{te:TE}{t:St->Hp->(Hp->Prop)->Prop} (he:PE X e te) (h:PJ X es t):PJ X (eval (.FormattedValue e (-1) none pos) X.env::es) (fun σ H Q=>te σ H λx H1=>∃i:Int,x=.int i/\(0<=i/\i<10 ^ 18)/\t σ H1 Q):=by
 intro out pins s σ H Q hl I hq
 refine joinParts_cons (FormattedValue_plain (thn (he pins s σ H _ I hq) λu s1 ⟨x,H1,I1,r1,i,ex,⟨h0,h1⟩,q⟩=>?_))
 subst ex
 obtain⟨tk,rfl⟩:=(show ∃t,u=Value.int i t from r1)
 refine wpAny_formatField_int (ZlU h0 h1) ?_
 have hx:(Str.ofString (toString i)).length<=18:=toString_length_le h0 (by decide) h1
 have hl':(out++Str.ofString (toString i)).length+2000*es.length<=100000:=by rw[PySem.strLen_append];simp at hl;omega
 refine⟨Yj (Yj (Nat.le_add_right _ _) hl') (by decide),?_⟩
 exact h _ pins _ σ H1 Q hl' (I1.tok _) q
theorem Zjn (env:Env):∀l:List Expr,(evalEach l env).length=l.length
 |[]=>rfl
 |e::r=>by
  have:evalEach (e::r) env=eval e env::evalEach r env:=rfl
  rw[this,YK,YK,Zjn env r]
theorem ZlV {e1 e2:Expr}{rest:List Expr}{pos:Pos}{t:St->Hp->(Hp->Prop)->Prop} (h:PJ X (eval e1 X.env::eval e2 X.env::evalEach rest X.env) t) (hn:rest.length<=20:=by decide) :
  PE X (.JoinedStr (e1::e2::rest) pos) (fun σ H Q=>t σ H λH1=>∀y,Q (.str y) H1):=by
 intro pins s σ H Q I hq
 have hle:=Zjn X.env rest
 refine JoinedStr_many (thn (h Str.empty pins s σ H _ (by simp only[YK,hle];show 0+_<=_;omega) I hq) λu s' ⟨y,tk,H',e,I',q⟩=>?_)
 subst e
 exact⟨.str y,H',I',⟨tk,rfl⟩,q y⟩
end
noncomputable def clsAt (mg:Str->Option Value) (x:Str):Addr:=match mg x with
 |some (.ref C)=>C
 |_=>0
noncomputable def Callee (P:Program) (w:World) (K:Frag) (mg:Str->Option Value) (base:Heap) (x:Str) (k:Nat) (ps:List Str) (sp:Sp):Prop :=
 ∃f fd,mg x=some (.ref f)/\keepIn K (.ref f)=true/\Binds K fd ps []/\FnOk P w K mg base (CXE P w) k f fd ps sp
section
variable {X:Cx}
theorem Za7 {st:Stmt}{t:TS} (h:PS X.nox st t):PS X st t:=λpins s σ H D I hw =>
 YG (h pins s σ H D (I.Zhy _) hw) (λ_ _ q=>q.Zd1) λ_ _ z=>False.elim z
theorem Zh {x:Str}{k:Nat}{ps:List Str}{sp:Sp}{E:XK}{e:Expr}{es:List Expr}{t:TA}{p pos:Pos} (C:Callee X.prog X.w X.K X.mg X.base x k ps sp) (hr:Room k X.A) (hg:Gl X x) (hx:Passes (CXE X.prog X.w) X E)
  (ha:PA X (e::es) t) (hdb:(x==("__debug__":Str))=false:=by decide) (he:starEach (e::es) X.env=(false,eval e X.env)::starEach es X.env:=by rfl) (hpl:(backTo pos (starEach es X.env)).any (·.1)=false:=by rfl) :
  PE X (.Call (.Name x p) (e::es) [] pos) (tCall sp [] E t):=by
 obtain⟨f,fd,hm,hk,hb,F⟩:=C
 exact Zla F hr hg hm hk hb .nil hx ha hdb he hpl
theorem Zpv {P:Program}{w:World}{K:Frag}{mg:Str->Option Value}{base:Heap}{N:List Str}{qual:Str}{scope:Scope}{f:Addr}{cd:Value}{A:Around}{outer:List Env}{s0:Shared}{H0:Hp}{E:XK}{C:Addr} :
  ∀pins σ H s h' e vs,Inv (ZeW (CXE P w) P w K mg base N qual scope f cd A outer s0 H0 E) pins σ H s->Heap.MadeExcOf s.heap h' e (.ref C) vs->E (.ref C) none H->(ZeW (CXE P w) P w K mg base N qual scope f cd A outer s0 H0 E).xe (.ref e) {s with heap:=h'} :=
 λ_ _ _ _ _ _ _ I hx hE=>ZiE I hx hE
end
theorem ZnU:bootBuiltins "max"=some (.builtin "max"):=by decide +kernel
theorem Zkr:bootBuiltins "min"=some (.builtin "min"):=by decide +kernel
theorem Zc0:bootBuiltins "isinstance"=some (.builtin "isinstance"):=by decide +kernel
theorem Zfh:bootBuiltins "list"=some (.type "list"):=by decide +kernel
theorem Zd9:bootBuiltins "tuple"=some (.type "tuple"):=by decide +kernel
theorem bt_int:bootBuiltins "int"=some (.type "int"):=by decide +kernel
theorem Zpw:bootBuiltins "bool"=some (.type "bool"):=by decide +kernel
section
variable {X:Cx}{pins:List (Addr×Obj)}{σ:St}{H:Hp}{s:Shared}{h':Heap}
theorem Inv.Zpx {t':Nat}{fp:List Addr} (I:Inv X pins σ H s) (k:∀b o,b∉fp->s.heap.get? b=some o->h'.get? b=some o) (hf:∀b∈fp,FpOk X pins H b):Inv X pins σ H {s with heap:=h',toks:=t'}:=by
 have nit:∀b u,H b=some u->b∉fp:=λb u e z=>by rw[(hf b z).1]at e;cases e
 refine I.step (g':=s.gens) (d':=s.drawn) (ch:=fp) (λb hb=>?_) (λb o _ _ hc e _=>k b o hc e) (λb o _ _ hc e _=>⟨o.slots,k b o hc e⟩) (λ_ _ _ _ n=>n)
  (λb o hc e=>⟨o,k b o hc e⟩) (λ_ _ e=>e) (λ_ _ _ e=>e) (λb ps e=>⟨#[],by rw[e];simp⟩) (λm hm=>?_) (λb u e=>?_) I.bare
 ·obtain⟨_,f1,_,f3,f4,f5⟩:=hf b hb
  exact⟨f3,f1,f4,f5⟩
 ·obtain⟨o,es,ep,ho,r⟩:=hm
  exact⟨o,es,ep,k _ o (λz=>(hf _ z).2.1 rfl) ho,r⟩
 ·refine(I.hok b u e).Zgp (λc v hc q=>k c v ?_ q) (λ_ q=>q) (λ_ _ q=>q) λ_ _ _ q=>q
  rcases hc with z|z
  ·rw[z];exact nit b u e
  ·exact nit c _ z
end
theorem cxK {CX:CXT}{P:Program}{w:World}{K:Frag}{mg:Str->Option Value}{base:Heap}{N:List Str}{qual:Str}{scope:Scope}{f:Addr}{cd:Value}{A:Around}{outer:List Env}{s:Shared}{H:Hp}{E:XK} :
  (ZeW CX P w K mg base N qual scope f cd A outer s H E).K=K:=rfl
theorem Zg.upd {H H1:Hp}{p:Addr}{o:HO} (h:H p=none) (e:Zg H H1):Zg H (upd H1 p o):=λb u z=>by
 rw[Zj (Zw z h)];exact e b u z
theorem Zg.Zat {H H1:Hp}{p:Addr}{o:HO} (e:Zg H H1) (h:H1 p=none):Zg H (L2.upd H1 p o):=e.upd (e.free h)
theorem ZiI {X:Cx}{K:Frag}{es:List Expr}{pos:Pos}{k:Nat}{t:TGs}{n:Nat} (hK:X.K=K) (hc:X.calm=true) (h:PGs X es t)
  (hn:(assignEach es X.env).length=n:=by rfl) (hst:(assignEach es X.env).findIdx? (·.1)=none:=by rfl):PG X (.Tuple es k pos) (gTup K n t):=hK▸Ziv hc h hn hst
noncomputable def LoopR (J:It) (g:TG) (tb:TS) (D:Ends) (σ:St) (H1:Hp):Prop:=∃W:Nat->Nat->St->Hp->Prop,(∃m,W 0 m σ H1)/\∀i m σ H,W i m σ H ->
 (J.stop i H/\D.nx σ H)\/(J.go i H/\∃N:St->Hp->Prop,(∀σ' H',N σ' H'->∃m',m'<m/\W (i+1) m' σ' H')/\∀x H',J.yld i H x H'->g x σ H' fun σ2 H2=>tb {D with nx:=N,ct:=N,bk:=D.nx} σ2 H2)
theorem Zli {wi:TI}{g:TG}{tb:TS}{D:Ends}{σ:St}{H:Hp}:tFor wi g tb D σ H=wi σ H λJ H1=>LoopR J g tb D σ H1:=rfl
noncomputable def ZnV (c:TT) (tb:TS) (D:Ends) (σ:St) (H:Hp):Prop:=Zkj c tb D σ H
theorem Zh2 {c:TT}{tb:TS}{D:Ends}{σ:St}{H:Hp}:Zkj c tb D σ H=ZnV c tb D σ H:=rfl
noncomputable def Zjo (J:It) (g:TG) (tt:TT) (te:TE) (σ0:St) (Q:VK) (H1:Hp):Prop:=∃W:Nat->Nat->List V->Hp->Prop,(∃m,W 0 m [] H1)/\∀i m acc H,W i m acc H ->
 (J.stop i H/\acc.length<=sizeLine/\∀p,H p=none->Q (.ref p) (upd H p (.lst acc))) \/
 (J.go i H/\acc.length<sizeLine/\∀x H',J.yld i H x H'->g x σ0 H' fun σ2 H2=>tt σ2 H2 λb H3=>if b=true then te σ2 H3 λv H4=>∃m',m'<m/\W (i+1) m' (acc++[v]) H4 else ∃m',m'<m/\W (i+1) m' acc H3)
theorem Zjp {wi:TI}{g:TG}{tt:TT}{te:TE}{js:List (Option Nat)}{σ:St}{H:Hp}{Q:VK}:Zlh wi g tt te js σ H Q=wi σ H λJ H1=>Zjo J g tt te (iniC js σ) Q H1:=rfl
noncomputable def CW (n:Nat) (vals:Nat->V) (H1:Hp) (i m:Nat) (acc:List V) (H:Hp):Prop:=m=n-i/\i<=n/\acc=(List.range i).map vals/\Zg H1 H
theorem CW.next {n:Nat}{vals:Nat->V}{H1 H:Hp}{i:Nat}{v:V} (hi:i<n) (hv:v=vals i) (s:Zg H1 H):∃m',m'<n-i/\CW n vals H1 (i+1) m' ((List.range i).map vals++[v]) H :=
 ⟨n-(i+1),by omega,rfl,hi,by rw[YL,YD,hv];rfl,s⟩
theorem comp_map {J:It}{n:Nat}{H1:Hp}{g:TG}{tt:TT}{te:TE}{σ0:St}{Q:VK} (vals:Nat->V) (hn:n<sizeLine) (hgo:∀i H,Zg H1 H->i<n->J.go i H) (hstop:∀H,Zg H1 H->J.stop n H)
  (hb:∀i x H H',i<n->Zg H1 H->J.yld i H x H'->g x σ0 H' fun σ2 H2=>tt σ2 H2 λb H3=>if b=true then te σ2 H3 λv H4=>∃m',m'<n-i/\CW n vals H1 (i+1) m' ((List.range i).map vals++[v]) H4 else ∃m',m'<n-i/\CW n vals H1 (i+1) m' ((List.range i).map vals) H3)
  (hk:∀l H',Zg H1 H'->H' l=none->Q (.ref l) (upd H' l (.lst ((List.range n).map vals)))) :
  Zjo J g tt te σ0 Q H1:=by
 refine⟨CW n vals H1,⟨n,rfl,Ys _,rfl,Zg.refl _⟩,?_⟩
 rintro i m acc H ⟨rfl,hi,rfl,s⟩
 by_cases h:i<n
 ·refine .inr ⟨hgo i H s h,by simpa using Nat.lt_trans h hn,λx H' y=>hb i x H H' h s y⟩
 ·have e:i=n:=by omega
  subst e
  exact .inl ⟨hstop H s,by simpa using YN hn,λp hp=>hk p H s hp⟩
theorem ZiJ {α:Type}{xs:List α}{i:Int}{j:Nat} (h:i=(j:Int)) (hj:j<xs.length):atI xs i=some xs[j]:=by
 subst h
 unfold atI ixN
 rw[Yd (by omega),Yd (by omega)]
 simp
theorem Zpy {α:Type}{xs:List α}{i:Int} (C:α->Prop) (h0:0<=i) (h1:i<xs.length) (h:∀x∈xs,C x):∃v,atI xs i=some v/\C v:=by
 obtain⟨j,rfl⟩:=Int.eq_ofNat_of_zero_le h0
 have hj:j<xs.length:=by omega
 exact⟨xs[j],ZiJ rfl hj,h _ (YM hj)⟩
theorem mul_r {a b:Int} (h1:-(2 ^ 64)<b) (h2:b<2 ^ 64):IntMulOk a b:=IntMulOk.of_right (intBits_le_64 h1 h2)
theorem ZgS {a b:Int} (h1:-(2 ^ 64)<a) (h2:a<2 ^ 64):IntMulOk a b:=IntMulOk.of_left (intBits_le_64 h1 h2)
theorem ZiK {a b:Int} (ha:Builtin.Int.intBits a<=2 ^ 20) (hb:Builtin.Int.intBits b<=2 ^ 20):IntMulOk a b:=IntMulOk.of_bits ha hb
theorem cp18:Zkm 10 18:=by unfold Zkm;decide
theorem cp59:Zkm 10 59:=by unfold Zkm;decide
noncomputable def Exc (p:Addr) (H H':Hp):Prop:=∀b o,b≠p->H b=some o->H' b=some o
theorem Zg.exc {H H1 H2:Hp}{p:Addr} (s:Zg H H1) (h:H p=none) (e:Exc p H1 H2):Zg H H2:=λb o z=>e b o (Zw z h) (s b o z)
theorem Zg.Zlj {H H':Hp}{p:Addr} (s:Zg H H'):Exc p H H':=λb o _ z=>s b o z
theorem Exc.upd {H:Hp}{p:Addr}{o:HO}:Exc p H (L2.upd H p o):=λb u n z=>by rw[Zj n];exact z
theorem Z6 {K:Frag}{H:Hp}{p:Addr}{xs:List V} (h:H p=some (.lst xs)):tyV K "list" (.ref p) H:=.inl ⟨rfl,_,SqL.of h⟩
theorem ZiL {i j:Int}:Zjg (.int i) (.int j)=true:=rfl
theorem Zlk {i j:Bool}:Zjg (.bl i) (.bl j)=true:=rfl
theorem Zll {i j:Str}:Zjg (.str i) (.str j)=true:=rfl
theorem Zlm:Zjg .non .non=true:=rfl
theorem Zln {i:Int}:Zjg .non (.int i)=true:=rfl
theorem Zlo {i:Int}:Zjg (.int i) .non=true:=rfl
section
variable {X:Cx}
noncomputable def rLen (K:Frag):List V->Hp->VK->Prop:=λxs H Q=>∃p ys,xs=[.ref p]/\(SqL K H p ys\/SqT K H p ys)/\Q (.int ys.length) H
theorem Zs {K:Frag} (hK:X.K=K):Zcz X (.builtin "len") (rLen K):=by subst hK;exact Ziz
noncomputable def rLof (K:Frag):List V->Hp->VK->Prop:=λxs H Q=>∃p ys,xs=[.ref p]/\(SqL K H p ys\/SqT K H p ys)/\∀l,H l=none->Q (.ref l) (upd H l (.lst ys))
theorem Zdr {K:Frag} (hK:X.K=K):Zcz X (.type "list") (rLof K):=by subst hK;exact ZiA
noncomputable def rTof (K:Frag):List V->Hp->VK->Prop:=λxs H Q=>∃p ys,xs=[.ref p]/\((SqL K H p ys/\∀l,H l=none->Q (.ref l) (upd H l (.tup ys)))\/(SqT K H p ys/\Q (.ref p) H))
theorem ZeC {K:Frag} (hK:X.K=K):Zcz X (.type "tuple") (rTof K):=by subst hK;exact ZhA
theorem Zh3 {K:Frag} (hK:X.K=K):Zcz X (.builtin "isinstance") (rIsi K):=by subst hK;exact ZnR
end
theorem ty_ii {K:Frag}{H:Hp}{i:Int}:tyIs K H (.int i) (.type "int") true:=.inl ⟨_,.int i,by with_unfolding_all rfl⟩
theorem ty_ib {K:Frag}{H:Hp}{i:Int}:tyIs K H (.int i) (.type "bool") false:=.inl ⟨_,.int i,by with_unfolding_all rfl⟩
theorem Zlp {a:Addr}{x:Value}:(cOf (.ref a)=some x)=(.ref a=x):=by simp[cOf]
theorem ZnW {n:String}{x:Value}:(cOf (.ty n)=some x)=(.type n=x):=by simp[cOf]
theorem Zpz (xs:List V):Zbx xs none (some 1)=xs.take 1:=by
 unfold Zbx HT.sIx
 cases xs<;>simp
noncomputable def Rows (H:Hp) (l:Addr) (rs:List (List Int)):Prop:=∃as:List Addr,H l=some (.lst (as.map V.ref))/\l∉as/\as.length=rs.length/\∀i (h1:i<as.length) (h2:i<rs.length),H as[i]=some (.lst (rs[i].map V.int))
inductive EqD (K:Frag) (H:Hp):Nat->V->V->Bool->Prop
 |flat {n:Nat}{x y:V} (fx:flatV x=true) (fy:flatV y=true):EqD K H n x y (eqV x y)
 |lst {n:Nat}{a b:Addr}{xs ys:List V} (e:Nat->Bool) (hx:SqL K H a xs) (hy:SqL K H b ys) (hl:xs.length=ys.length) (h:∀j x y,xs[j]?=some x->ys[j]?=some y->EqD K H n x y (e j)):EqD K H (n+1) (.ref a) (.ref b) ((List.range xs.length).all e)
 |len {n:Nat}{a b:Addr}{xs ys:List V} (hx:SqL K H a xs) (hy:SqL K H b ys) (hl:xs.length≠ys.length):EqD K H (n+1) (.ref a) (.ref b) false
 |tup {n:Nat}{a b:Addr}{xs ys:List V} (e:Nat->Bool) (hx:SqT K H a xs) (hy:SqT K H b ys) (h:∀j x y,xs[j]?=some x->ys[j]?=some y->EqD K H n x y (e j)):EqD K H (n+1) (.ref a) (.ref b) ((List.range (min xs.length ys.length)).all e&&xs.length==ys.length)
theorem Zjq {x:V} (h:flatV x=true):eqV x x=true:=by
 cases x<;>first
  |rfl
  |(simp[eqV];done)
  |cases h
section
variable {X:Cx}{pins:List (Addr×Obj)}{σ:St}{H:Hp}{s:Shared}
theorem Zjr (I:Inv X pins σ H s) {n:Nat}{x y:V}{b:Bool} (h:EqD X.K H n x y b):x=y->b=true:=by
 induction h with
 |flat fx fy=>rintro rfl;exact Zjq fx
 |lst e hx hy hl h ih =>
  intro z
  cases z
  have:=I.ZbQ hx hy
  subst this
  refine List.all_eq_true.mpr λj hj=>?_
  have hj':=Yx.mp hj
  exact ih j _ _ (Yf hj') (Yf hj') rfl
 |len hx hy hl =>
  intro z
  cases z
  have:=I.ZbQ hx hy
  subst this
  exact absurd rfl hl
 |tup e hx hy h ih =>
  intro z
  cases z
  have:=I.ZfD hx hy
  subst this
  rw[Nat.min_self]
  have:(List.range _).all e=true:=List.all_eq_true.mpr λj hj=>by
   have hj':=Yx.mp hj
   exact ih j _ _ (Yf hj') (Yf hj') rfl
  rw[this];simp
theorem ZfG (I:Inv X pins σ H s) {n:Nat}{x y:V}{b:Bool} (h:EqD X.K H n x y b):∀(A:Around) (u v:Value),A.units+n<cLine->RelV x u->RelV y v->SeqAt.EqAt A s u v b:=by
 induction h with
 |flat fx fy=>intro A u v _ ru rv;exact ZnN ru rv fx fy
 |@lst n a b xs ys e hx hy hl h ih =>
  intro A u v hu ru rv
  have hb:=Zjr I (.lst e hx hy hl h)
  cases ru
  cases rv
  by_cases hab:a=b
  ·subst hab
   rw[hb rfl];exact SeqAt.EqAt.same _
  ·obtain⟨is1,r1,p1,_⟩:=I.list hx
   obtain⟨is2,r2,p2,_⟩:=I.list hy
   have e1:=r1.length
   have e2:=r2.length
   have key:=SeqAt.RcAt.lists (A:=A) (s:=s) (e:=e) p1.isList p2.isList (by simp;omega) (by omega) λj h1 h2=>by
    have h1':j<xs.length:=by simpa[e1]using h1
    have h2':j<ys.length:=by simpa[e2]using h2
    obtain⟨u,hu1,ru⟩:=r1.get (Yf h1')
    obtain⟨v,hv1,rv⟩:=r2.get (Yf h2')
    have eu:is1.toArray[j]=u:=by simpa using(Yi.mp hu1).2
    have ev:is2.toArray[j]=v:=by simpa using(Yi.mp hv1).2
    rw[eu,ev]
    exact ih j _ _ (Yf h1') (Yf h2') A.in1 u v (by show A.units+1+n<cLine;omega) ru rv
   have e3:is1.toArray.size=xs.length:=by simp[e1]
   rw[e3]at key
   exact SeqAt.EqAt.of_refs hab key
 |@len n a b xs ys hx hy hl =>
  intro A u v hu ru rv
  cases ru
  cases rv
  have hab:a≠b:=λz=>by subst z;exact hl (congrArg List.length (I.ZbQ hx hy))
  obtain⟨is1,r1,p1,_⟩:=I.list hx
  obtain⟨is2,r2,p2,_⟩:=I.list hy
  have e1:=r1.length
  have e2:=r2.length
  exact SeqAt.EqAt.of_refs hab (SeqAt.RcAt.lists_lengths p1.isList p2.isList (by simp;omega) (by omega))
 |@tup n a b xs ys e hx hy h ih =>
  intro A u v hu ru rv
  have hb:=Zjr I (.tup e hx hy h)
  cases ru
  cases rv
  by_cases hab:a=b
  ·subst hab
   rw[hb rfl];exact SeqAt.EqAt.same _
  ·obtain⟨is1,r1,p1,_⟩:=I.tuple hx
   obtain⟨is2,r2,p2,_⟩:=I.tuple hy
   have e1:=r1.length
   have e2:=r2.length
   have key:=SeqAt.RcAt.tuples (A:=A) (s:=s) (e:=e) p1 p2 (by omega) λj h1 h2=>by
    have h1':j<xs.length:=by simpa[e1]using h1
    have h2':j<ys.length:=by simpa[e2]using h2
    obtain⟨u,hu1,ru⟩:=r1.get (Yf h1')
    obtain⟨v,hv1,rv⟩:=r2.get (Yf h2')
    have eu:is1.toArray[j]=u:=by simpa using(Yi.mp hu1).2
    have ev:is2.toArray[j]=v:=by simpa using(Yi.mp hv1).2
    rw[eu,ev]
    exact ih j _ _ (Yf h1') (Yf h2') A.in1 u v (by show A.units+1+n<cLine;omega) ru rv
   have e3:is1.toArray.size=xs.length:=by simp[e1]
   have e4:is2.toArray.size=ys.length:=by simp[e2]
   rw[e3,e4]at key
   exact SeqAt.EqAt.of_refs hab key
end
noncomputable def rEqD (K:Frag) (neg:Bool):R2:=λx y H Q=>∃a b k,x=.ref a/\y=.ref b/\EqD K H 3 x y k/\Q (.bl (if neg then !k else k)) H
section
variable {X:Cx}
theorem Zks {K:Frag} (hK:X.K=K) {k:Nat} (hr:Room k X.A):OpR X (compareOp .Eq) (rEqD K false):=by
 subst hK
 have hu0:=hr.un
 intro pins s σ H x y v u Q I rx ry h
 obtain⟨a,b,k,rfl,rfl,h,q⟩:=h
 cases rx
 cases ry
 cases h with
 |flat fx fy=>cases fx
 |@lst n _ _ xs ys e hx hy hl h =>
  obtain⟨is1,r1,p1,_⟩:=I.list hx
  obtain⟨is2,r2,p2,_⟩:=I.list hy
  have e1:=r1.length
  have e2:=r2.length
  have e3:is1.toArray.size=xs.length:=by simp[e1]
  refine SeqAt.eq_listAt (e:=e) p1.isList p2.isList (by simp;omega) (by omega) (λj h1 h2=>?_) ⟨.bl _,H,I,rfl,by rw[e3];exact q⟩
  have h1':j<xs.length:=by simpa[e1]using h1
  have h2':j<ys.length:=by simpa[e2]using h2
  obtain⟨u,hu1,ru⟩:=r1.get (Yf h1')
  obtain⟨v,hv1,rv⟩:=r2.get (Yf h2')
  have eu:is1.toArray[j]=u:=by simpa using(Yi.mp hu1).2
  have ev:is2.toArray[j]=v:=by simpa using(Yi.mp hv1).2
  rw[eu,ev]
  exact ZfG I (h j _ _ (Yf h1') (Yf h2')) X.A.in1 u v (by show X.A.units+1+2<cLine;omega) ru rv
 |@len n _ _ xs ys hx hy hl =>
  obtain⟨is1,r1,p1,_⟩:=I.list hx
  obtain⟨is2,r2,p2,_⟩:=I.list hy
  have e1:=r1.length
  have e2:=r2.length
  exact SeqAt.eq_list_lengthsAt p1.isList p2.isList (by simp;omega) (by omega) ⟨.bl _,H,I,rfl,q⟩
 |@tup n _ _ xs ys e hx hy h =>
  obtain⟨is1,r1,p1,_⟩:=I.tuple hx
  obtain⟨is2,r2,p2,_⟩:=I.tuple hy
  have e1:=r1.length
  have e2:=r2.length
  have e3:is1.toArray.size=xs.length:=by simp[e1]
  have e4:is2.toArray.size=ys.length:=by simp[e2]
  refine SeqAt.eq_tupleAt (e:=e) p1 p2 (by omega) (λj h1 h2=>?_) ⟨.bl _,H,I,rfl,by rw[e3,e4];exact q⟩
  have h1':j<xs.length:=by simpa[e1]using h1
  have h2':j<ys.length:=by simpa[e2]using h2
  obtain⟨u,hu1,ru⟩:=r1.get (Yf h1')
  obtain⟨v,hv1,rv⟩:=r2.get (Yf h2')
  have eu:is1.toArray[j]=u:=by simpa using(Yi.mp hu1).2
  have ev:is2.toArray[j]=v:=by simpa using(Yi.mp hv1).2
  rw[eu,ev]
  exact ZfG I (h j _ _ (Yf h1') (Yf h2')) X.A.in1 u v (by show X.A.units+1+2<cLine;omega) ru rv
theorem Zkt {K:Frag} (hK:X.K=K) {k:Nat} (hr:Room k X.A):OpR X (compareOp .NotEq) (rEqD K true):=by
 subst hK
 have hu0:=hr.un
 intro pins s σ H x y v u Q I rx ry h
 obtain⟨a,b,k,rfl,rfl,h,q⟩:=h
 cases rx
 cases ry
 cases h with
 |flat fx fy=>cases fx
 |@lst n _ _ xs ys e hx hy hl h =>
  obtain⟨is1,r1,p1,_⟩:=I.list hx
  obtain⟨is2,r2,p2,_⟩:=I.list hy
  have e1:=r1.length
  have e2:=r2.length
  have e3:is1.toArray.size=xs.length:=by simp[e1]
  refine SeqAt.RcNeAt.lists (e:=e) p1.isList p2.isList (by simp;omega) (by omega) (λj h1 h2=>?_) _ _ _ _ ⟨.bl _,H,I,rfl,by rw[e3];exact q⟩
  have h1':j<xs.length:=by simpa[e1]using h1
  have h2':j<ys.length:=by simpa[e2]using h2
  obtain⟨u,hu1,ru⟩:=r1.get (Yf h1')
  obtain⟨v,hv1,rv⟩:=r2.get (Yf h2')
  have eu:is1.toArray[j]=u:=by simpa using(Yi.mp hu1).2
  have ev:is2.toArray[j]=v:=by simpa using(Yi.mp hv1).2
  rw[eu,ev]
  exact ZfG I (h j _ _ (Yf h1') (Yf h2')) X.A.in1 u v (by show X.A.units+1+2<cLine;omega) ru rv
 |@len n _ _ xs ys hx hy hl =>
  obtain⟨is1,r1,p1,_⟩:=I.list hx
  obtain⟨is2,r2,p2,_⟩:=I.list hy
  have e1:=r1.length
  have e2:=r2.length
  exact SeqAt.RcNeAt.lists_lengths p1.isList p2.isList (by simp;omega) (by omega) _ _ _ _ ⟨.bl _,H,I,rfl,q⟩
 |@tup n _ _ xs ys e hx hy h =>
  obtain⟨is1,r1,p1,_⟩:=I.tuple hx
  obtain⟨is2,r2,p2,_⟩:=I.tuple hy
  have e1:=r1.length
  have e2:=r2.length
  have e3:is1.toArray.size=xs.length:=by simp[e1]
  have e4:is2.toArray.size=ys.length:=by simp[e2]
  refine SeqAt.RcNeAt.tuples (e:=e) p1 p2 (by omega) (λj h1 h2=>?_) _ _ _ _ ⟨.bl _,H,I,rfl,by rw[e3,e4];exact q⟩
  have h1':j<xs.length:=by simpa[e1]using h1
  have h2':j<ys.length:=by simpa[e2]using h2
  obtain⟨u,hu1,ru⟩:=r1.get (Yf h1')
  obtain⟨v,hv1,rv⟩:=r2.get (Yf h2')
  have eu:is1.toArray[j]=u:=by simpa using(Yi.mp hu1).2
  have ev:is2.toArray[j]=v:=by simpa using(Yi.mp hv1).2
  rw[eu,ev]
  exact ZfG I (h j _ _ (Yf h1') (Yf h2')) X.A.in1 u v (by show X.A.units+1+2<cLine;omega) ru rv
end
noncomputable def IsI (v:V) (i:Int):Prop:=v=.int i
noncomputable def IsL (K:Frag) (H:Hp) {α:Type} (P:V->α->Prop) (v:V) (as:List α):Prop:=∃a xs,v=.ref a/\SqL K H a xs/\xs.length=as.length/\∀(j:Nat) (x:V) (y:α),xs[j]?=some x->as[j]?=some y->P x y
noncomputable def IsT (K:Frag) (H:Hp) {α:Type} (P:V->α->Prop) (v:V) (as:List α):Prop:=∃a xs,v=.ref a/\SqT K H a xs/\xs.length=as.length/\∀(j:Nat) (x:V) (y:α),xs[j]?=some x->as[j]?=some y->P x y
noncomputable def EqP (K:Frag) (H:Hp) (n:Nat) {α:Type} [DecidableEq α] (P:V->α->Prop):Prop:=∀x y a b,P x a->P y b->EqD K H n x y (decide (a=b))
theorem Zfi {K:Frag}{H:Hp}{n:Nat}:EqP K H n IsI:=by
 rintro x y a b rfl rfl
 have:=EqD.flat (K:=K) (H:=H) (n:=n) (x:=.int a) (y:=.int b) rfl rfl
 have e:eqV (.int a) (.int b)=decide (a=b):=by simp[eqV,Bool.beq_eq_decide_eq]
 rw[<-e];exact this
theorem all_eq {α:Type} [DecidableEq α] (as bs:List α) (h:as.length=bs.length):(List.range as.length).all (λj=>decide (as[j]?=bs[j]?))=decide (as=bs):=by
 rw[Bool.eq_iff_iff,List.all_eq_true,decide_eq_true_iff]
 constructor
 ·intro q
  refine List.ext_getElem? λj=>?_
  by_cases hj:j<as.length
  ·simpa using q j (Yx.mpr hj)
  ·rw[List.getElem?_eq_none (by omega),List.getElem?_eq_none (by omega)]
 ·rintro rfl j _;simp
theorem ZpA {K:Frag}{H:Hp}{n:Nat}{α:Type} [DecidableEq α] {P:V->α->Prop} (h:EqP K H n P):EqP K H (n+1) (IsL K H P):=by
 rintro x y as bs ⟨a,xs,rfl,hx,lx,px⟩ ⟨b,ys,rfl,hy,ly,py⟩
 by_cases hl:as.length=bs.length
 ·rw[<-all_eq as bs hl,<-lx]
  refine .lst _ hx hy (by omega) λj x y h1 h2=>?_
  have j1:=(Yi.mp h1).1
  have j2:=(Yi.mp h2).1
  have ha:as[j]?=some as[j]:=Yf (by omega)
  have hb:bs[j]?=some bs[j]:=Yf (by omega)
  have:=h x y _ _ (px j _ _ h1 ha) (py j _ _ h2 hb)
  rw[ha,hb]
  simpa using this
 ·have e:decide (as=bs)=false:=by simp;intro z;exact hl (congrArg List.length z)
  rw[e]
  exact .len hx hy (by omega)
theorem ZgI {K:Frag}{H:Hp}{n:Nat}{α:Type} [DecidableEq α] {P:V->α->Prop} (h:EqP K H n P):EqP K H (n+1) (IsT K H P):=by
 rintro x y as bs ⟨a,xs,rfl,hx,lx,px⟩ ⟨b,ys,rfl,hy,ly,py⟩
 have key:=EqD.tup (K:=K) (H:=H) (n:=n) (λj=>decide (as[j]?=bs[j]?)) hx hy λj x y h1 h2=>by
  have j1:=(Yi.mp h1).1
  have j2:=(Yi.mp h2).1
  have ha:as[j]?=some as[j]:=Yf (by omega)
  have hb:bs[j]?=some bs[j]:=Yf (by omega)
  have:=h x y _ _ (px j _ _ h1 ha) (py j _ _ h2 hb)
  rw[ha,hb]
  simpa using this
 have e:((List.range (min xs.length ys.length)).all (λj=>decide (as[j]?=bs[j]?))&&xs.length==ys.length)=decide (as=bs):=by
  rw[lx,ly]
  by_cases hl:as.length=bs.length
  ·rw[<-hl,Nat.min_self,all_eq as bs hl];simp
  ·have e:decide (as=bs)=false:=by simp;intro z;exact hl (congrArg List.length z)
   rw[e]
   simp[hl]
 rw[e]at key
 exact key
theorem Zam {K:Frag}{H:Hp}{a:Addr}{ns:List Int} (h:SqL K H a (ns.map V.int)):IsL K H IsI (.ref a) ns:=⟨a,_,rfl,h,by simp,λj x y h1 h2=>by
 rw[Yw,h2]at h1
 exact(Yo h1).symm⟩
theorem Zan {K:Frag}{H:Hp}{a:Addr}{ns:List Int} (h:SqT K H a (ns.map V.int)):IsT K H IsI (.ref a) ns:=⟨a,_,rfl,h,by simp,λj x y h1 h2=>by
 rw[Yw,h2]at h1
 exact(Yo h1).symm⟩
section
variable {X:Cx}
noncomputable def rAll (K:Frag):List V->Hp->VK->Prop:=λxs H Q=>∃(p:Addr) (bs:List Bool),xs=[.ref p]/\SqL K H p (bs.map V.bl)/\Q (.bl (bs.all id)) H
theorem all_ix (bs:List Bool):(List.range bs.length).all (λi=>bs.getD i false)=bs.all id:=by
 rw[Bool.eq_iff_iff,List.all_eq_true,List.all_eq_true]
 constructor
 ·intro h x hx
  obtain⟨j,hj,rfl⟩:=Y2 hx
  have:=h j (Yx.mpr hj)
  simpa[YB,hj]using this
 ·intro h j hj
  have hj':=Yx.mp hj
  have:=h _ (YM hj')
  simpa[YB,hj']using this
theorem Zjs {prog:Program}{w:World}{A:Around}{bs:List Bool}{its:List Value} (r:Vals (bs.map V.bl) its):TruthOf prog w A (λi v=>its.toArray[i]?=some v) (λi=>bs.getD i false):=by
 intro i v s Q E hv hq
 have hv':its[i]?=some v:=by simpa using hv
 have hl:=r.length
 have hi:i<bs.length:=by
  have:=(Yi.mp hv').1
  rw[Yg]at hl;omega
 obtain⟨u,hu,ru⟩:=r.get (i:=i) (x:=V.bl bs[i]) (by rw[Yw,Yf hi];rfl)
 rw[hv']at hu
 cases hu
 cases ru
 refine wpAny_truthy_bool ?_
 simpa[YB,hi]using hq
theorem ZnX {K:Frag} (hK:X.K=K) (hc:X.calm=true):Zcz X (.builtin "all") (rAll K):=by
 subst hK
 intro pins s σ H xs us Q I r h
 obtain⟨p,bs,rfl,hp,q⟩:=h
 obtain⟨u,rfl,ru⟩:=r.one
 cases(show u=Value.ref p from ru)
 obtain⟨its,r',pl,hz⟩:=I.list hp
 have hl:=r'.length
 refine call_all_walk (wpAny_pyIter_list pl.isList ?_)
 have hne:p≠s.heap.objs.size:=by obtain⟨o,e,_⟩:=pl.isList;exact Yp (Yh e)
 refine⟨s.heap.objs.size,_,_,_,_,_,λi=>bs.getD i false,rfl,Walks.list (A:=X.A.in1) (show X.A.in1.handled=none from I.ok.hd hc) _ p hne its.toArray,⟨⟨_,Yt _ rfl,rfl,rfl⟩,pl.isList.push _⟩,Zjs r',λh' tk kp=>?_⟩
 have e1:its.toArray.size=bs.length:=by rw[Yl];rw[Yg]at hl;omega
 rw[e1,all_ix]
 exact⟨.bl _,H,I.kept (t':=tk) λb o e=>kp b o (by simp;exact Yp (Yh e)) (Yn _ e),rfl,q⟩
noncomputable def rIxQ (K:Frag):R2:=λx y H Q=>∃p xs i v,x=.ref p/\y=.int i/\(SqL K H p xs\/SqT K H p xs)/\atI xs i=some v/\Q v H
theorem ix_q {K:Frag} (hK:X.K=K):IxR X (rIxQ K):=by
 subst hK
 intro value slice pins s σ H x y v u Q I rx ry h hs
 refine(ZA.or Zby) (value:=value) (slice:=slice) pins s σ H x y v u Q I rx ry ?_ hs
 obtain⟨p,xs,i,v,rfl,rfl,hq,ha,q⟩:=h
 rcases hq with hq|hq
 ·exact .inl ⟨p,xs,i,v,rfl,rfl,hq,ha,q⟩
 ·exact .inr ⟨p,xs,i,v,rfl,rfl,hq,ha,q⟩
theorem bt_all:bootBuiltins "all"=some (.builtin "all"):=by decide +kernel
end
noncomputable def ZcQ (f:Nat->Int) (a b p:Nat):Prop:=a<=p/\p<=b/\(∀q,a<=q->q<p->f p<f q)/\∀q,p<q->q<=b->f p<=f q
theorem ZcQ.unique {f:Nat->Int}{a b p q:Nat} (h:ZcQ f a b p) (k:ZcQ f a b q):p=q:=by
 obtain⟨h1,h2,h3,h4⟩:=h
 obtain⟨k1,k2,k3,k4⟩:=k
 rcases Nat.lt_trichotomy p q with z|z|z
 ·have:=k3 p h1 z
  have:=h4 q z k2
  omega
 ·exact z
 ·have:=h3 q k1 z
  have:=k4 p z h2
  omega
theorem ZcQ.join {f:Nat->Int}{a m a' b p q:Nat} (h:ZcQ f a m p) (k:ZcQ f a' b q) (h1:a<=a') (h2:a'<=m+1) (h3:m<=b):ZcQ f a b (if f q<f p then q else p):=by
 obtain⟨p1,p2,p3,p4⟩:=h
 obtain⟨q1,q2,q3,q4⟩:=k
 have pm:∀r,a<=r->r<=m->f p<=f r:=λr r1 r2=>by
  rcases Nat.lt_trichotomy r p with z|z|z
  ·exact Int.le_of_lt (p3 r r1 z)
  ·rw[z];exact Int.le_refl _
  ·exact p4 r z r2
 have qm:∀r,a'<=r->r<=b->f q<=f r:=λr r1 r2=>by
  rcases Nat.lt_trichotomy r q with z|z|z
  ·exact Int.le_of_lt (q3 r r1 z)
  ·rw[z];exact Int.le_refl _
  ·exact q4 r z r2
 split
 ·rename_i hlt
  refine⟨by omega,q2,λr r1 r2=>?_,λr r1 r2=>qm r (by omega) r2⟩
  by_cases z:a'<=r
  ·exact q3 r z r2
  ·have:=pm r r1 (by omega);omega
 ·rename_i hle
  refine⟨p1,by omega,p3,λr r1 r2=>?_⟩
  by_cases z:r<=m
  ·exact p4 r r1 z
  ·have:=qm r (by omega) r2;omega
noncomputable def Zgr (f:Nat->Int) (a:Nat):Nat->Nat
 |0=>a
 |c+1=>if f (a+c+1)<f (Zgr f a c)then a+c+1 else Zgr f a c
theorem Zh4 (f:Nat->Int) (a:Nat):ZcQ f a a a:=⟨Ye _,Ye _,λq h1 h2=>by omega,λq h1 h2=>by omega⟩
theorem Zcp (f:Nat->Int) (a c:Nat):ZcQ f a (a+c) (Zgr f a c):=by
 induction c with
 |zero=>exact Zh4 f a
 |succ c ih =>
  rw[Zgr]
  exact ih.join (Zh4 f (a+c+1)) (by omega) (by omega) (by omega)
noncomputable def nth (ns:List Int) (i:Nat):Int:=ns.getD i 0
theorem Zc1 {ns:List Int}{i:Nat} (h:i<ns.length):atI (ns.map V.int) (i:Int)=some (V.int (nth ns i)):=by
 rw[ZiJ rfl (by simpa using h)]
 simp[nth,YB,h]
theorem ZiM (f:Nat->Int) (a c:Nat):a<=Zgr f a c/\Zgr f a c<=a+c:=⟨(Zcp f a c).1,(Zcp f a c).2.1⟩
noncomputable def WI (N:Nat) (Pv:Nat->St->Hp->Prop) (m:Nat) (σ:St) (H:Hp):Prop:=∃i,m=N-i/\i<=N/\Pv i σ H
theorem WI.next {N:Nat}{Pv:Nat->St->Hp->Prop}{i:Nat}:∀σ' H',(i+1<=N/\Pv (i+1) σ' H')->∃m',m'<N-i/\WI N Pv m' σ' H':=fun σ' H' h=>⟨N-(i+1),by omega,i+1,rfl,h.1,h.2⟩
theorem ZiN {c:TT}{tb:TS}{D:Ends}{σ:St}{H:Hp} (N:Nat) (Pv:Nat->St->Hp->Prop) (h0:Pv 0 σ H)
  (hs:∀i σ H,i<=N->Pv i σ H->c σ H λb H1=>if b=true then ∃Nx:St->Hp->Prop,(∀σ' H',Nx σ' H'->∃m',m'<N-i/\WI N Pv m' σ' H')/\tb {D with nx:=Nx,ct:=Nx,bk:=D.nx} σ H1 else D.nx σ H1):ZnV c tb D σ H:=by
 refine⟨WI N Pv,⟨N,0,rfl,Ys _,h0⟩,?_⟩
 rintro m σ H ⟨i,rfl,hi,p⟩
 exact hs i σ H hi p
theorem Zg.seqT {K:Frag}{H H':Hp}{a:Addr}{xs:List V} (e:Zg H H') (h:SqT K H a xs):SqT K H' a xs:=by
 rcases h with(h|⟨o,h⟩)|h
 ·exact .inl (.inl (e _ _ h))
 ·exact .inl (.inr ⟨o,e _ _ h⟩)
 ·exact .inr h
theorem Zg.q {K:Frag}{H H':Hp}{a:Addr}{xs:List V} (e:Zg H H') (h:SqL K H a xs\/SqT K H a xs):SqL K H' a xs\/SqT K H' a xs:=h.imp e.seq e.seqT
theorem Exc.trans {p:Addr}{H H1 H2:Hp} (a:Exc p H H1) (b:Exc p H1 H2):Exc p H H2:=λc o n z=>b c o n (a c o n z)
theorem Exc.free {p q:Addr}{H H':Hp} (e:Exc p H H') (n:q≠p) (h:H' q=none):H q=none:=by
 cases z:H q with
 |none=>rfl
 |some o=>rw[e q o n z]at h;cases h
theorem Exc.updN {p q:Addr}{H H':Hp}{o:HO} (e:Exc p H H') (h:H q=none):Exc p H (L2.upd H' q o):=λb u n z=>by
 rw[Zj (Zw z h)];exact e b u n z
theorem Exc.same {p:Addr}{H H1 H2:Hp} (a:Exc p H H1) (s:Zg H1 H2):Exc p H H2:=a.trans s.Zlj
noncomputable def CA (n:Nat) (Pv:Nat->List V->Hp->Prop) (i m:Nat) (acc:List V) (H:Hp):Prop:=m=n-i/\i<=n/\acc.length<=i/\Pv i acc H
theorem CA.take {n:Nat}{Pv:Nat->List V->Hp->Prop}{i:Nat}{acc:List V}{v:V}{H:Hp} (hi:i<n) (hl:acc.length<=i) (h:Pv (i+1) (acc++[v]) H):∃m',m'<n-i/\CA n Pv (i+1) m' (acc++[v]) H:=⟨n-(i+1),by omega,rfl,hi,by simp;omega,h⟩
theorem Zjt {J:It}{n:Nat}{H1:Hp}{g:TG}{tt:TT}{te:TE}{σ0:St}{Q:VK} (Pv:Nat->List V->Hp->Prop) (hn:n<sizeLine) (h0:Pv 0 [] H1) (hgo:∀i acc H,Pv i acc H->i<n->J.go i H) (hstop:∀acc H,Pv n acc H->J.stop n H)
  (hb:∀i x acc H H',i<n->acc.length<=i->Pv i acc H->J.yld i H x H'->g x σ0 H' fun σ2 H2=>tt σ2 H2 λb H3=>if b=true then te σ2 H3 λv H4=>∃m',m'<n-i/\CA n Pv (i+1) m' (acc++[v]) H4 else ∃m',m'<n-i/\CA n Pv (i+1) m' acc H3)
  (hk:∀l acc H',Pv n acc H'->acc.length<=n->H' l=none->Q (.ref l) (upd H' l (.lst acc))):Zjo J g tt te σ0 Q H1:=by
 refine⟨CA n Pv,⟨n,rfl,Ys _,Ye _,h0⟩,?_⟩
 rintro i m acc H ⟨rfl,hi,hl,p⟩
 by_cases h:i<n
 ·exact .inr ⟨hgo i acc H p h,by omega,λx H' y=>hb i x acc H H' h hl p y⟩
 ·have e:i=n:=by omega
  subst e
  exact .inl ⟨hstop acc H p,by omega,λq hq=>hk q acc H p hl hq⟩
section
variable {X:Cx}
noncomputable def rInsert:V->List V->Hp->VK->Prop:=λx vs H Q=>∃l xs i y,x=.ref l/\vs=[.int i,y]/\H l=some (.lst xs)/\0<=i/\i<2 ^ 62/\xs.length<sizeLine/\Q .non (upd H l (.lst (xs.take i.toNat++y::xs.drop i.toNat)))
theorem Vals.ZnY:∀{xs:List V}{us:List Value} (k:Nat),Vals xs us->Vals (xs.take k) (us.take k)
 |_,_,0,_=>by simp;exact .nil
 |_,_,_+1,.nil=>.nil
 |_,_,k+1,.cons r h=>.cons r (Vals.ZnY k h)
theorem Vals.dropN:∀{xs:List V}{us:List Value} (k:Nat),Vals xs us->Vals (xs.drop k) (us.drop k)
 |_,_,0,h=>by simpa using h
 |_,_,_+1,.nil=>.nil
 |_,_,k+1,.cons _ h=>Vals.dropN k h
theorem ZlW:MtM X "list.insert" rInsert:=by
 intro pins s σ H x vs v us Q I rx rv h
 obtain⟨l,xs,i,y,rfl,rfl,hH,h1,h2,hz,q⟩:=h
 cases rx
 obtain⟨u,u2,rfl,ru,ru2⟩:=rv.two
 obtain⟨t,rfl⟩:=ru
 obtain⟨z,its,n,r,hl,e⟩:=I.ZlN hH
 have hf:¬ (!Builtin.List.listFitsIndex i)=true:=by
  unfold Builtin.List.listFitsIndex
  have a1:decide (-(2 ^ 63:Int)<=i)=true:=YF (by omega)
  have a2:decide (i<(2 ^ 63:Int))=true:=YF (by omega)
  rw[a1,a2];decide
 refine call_meets F.slot_list_insert ⟨_,e,rfl⟩ F.entry_list_insert (F.args_list_insert_3 _ _ _) (AutoListH.list_insert_list_int_val_1 l its.toArray n i t u2 hf (by rw[Yl];omega)) ⟨e,?_⟩
 refine⟨.non,_,I.lset (its':=its.take i.toNat++u2::its.drop i.toNat) (ys:=xs.take i.toNat++y::xs.drop i.toNat) hH e ?_ ((r.ZnY _).append (.cons ru2 (r.dropN _))) ?_,rfl,q⟩
 ·show((its.toArray.extract 0 (if i<0 then (i+((its.toArray.size:Nat):Int)).toNat else min i.toNat its.toArray.size)).push u2++its.toArray.extract (if i<0 then (i+((its.toArray.size:Nat):Int)).toNat else min i.toNat its.toArray.size))=_
  rw[Yb (by omega)]
  have e1:its.take (min i.toNat its.length)=its.take i.toNat:=by
   by_cases hh:i.toNat<=its.length
   ·rw[Nat.min_eq_left hh]
   ·rw[Nat.min_eq_right (by omega),List.take_of_length_le (by omega),List.take_of_length_le (by omega)]
  have e2:its.drop (min i.toNat its.length)=its.drop i.toNat:=by
   by_cases hh:i.toNat<=its.length
   ·rw[Nat.min_eq_left hh]
   ·rw[Nat.min_eq_right (by omega),List.drop_of_length_le (by omega),List.drop_of_length_le (by omega)]
  apply Array.ext'
  simp[e1,e2]
  exact List.take_of_length_le (by rw[YT];omega)
 ·rw[Yy,YK,YJ,YT];omega
noncomputable def rIndex (K:Frag):V->List V->Hp->VK->Prop:=λx vs H Q=>∃(l:Addr) (ns:List Int) (k:Int),x=.ref l/\vs=[.int k]/\SqL K H l (ns.map V.int)/\ns.length<=100000/\k∈ns/\Q (.int (ns.idxOf k:Nat)) H
theorem ZnZ {K:Frag} (hK:X.K=K):MtM X "list.index" (rIndex K):=by
 subst hK
 intro pins s σ H x vs v us Q I rx rv h
 obtain⟨l,ns,k,rfl,rfl,hH,hz,hk,q⟩:=h
 cases rx
 obtain⟨u,rfl,ru⟩:=rv.one
 obtain⟨t,rfl⟩:=ru
 obtain⟨its,r,pl,_⟩:=I.list hH
 have hi:IntsAre its ns:=intsAre_of r
 have hlen:=r.length
 rw[Yg]at hlen
 obtain⟨⟨cls,dd,data,sl⟩,ho,hc,n,hd⟩:=pl.isList
 simp only at hc hd
 subst hc hd
 have hj:ns.idxOf k<ns.length:=List.idxOf_lt_length_iff.mpr hk
 refine call_meets F.slot_list_index ⟨_,ho,rfl⟩ F.entry_list_index (F.args_list_index_2 _ _)
  (SeqAt.list_indexAt l its.toArray n dd sl (.int k t) (isInt k) (ns.idxOf k) (by rw[Yl];omega) (by omega) ?_ ?_) ⟨ho,λy hy=>(eq_isInt k t hi y (by simpa using hy)).at _ _,⟨.int _,H,I.tok _,⟨_,rfl⟩,q⟩⟩
 ·show isInt k its[ns.idxOf k]=true
  rw[isInt_at k hi _ (by omega) hj]
  simpa using List.getElem_idxOf hj
 ·intro j hjs hlt
  show isInt k its[j]=false
  rw[isInt_at k hi j (by simpa using hjs) (by omega)]
  exact ne_of_lt_idxOf hlt _
end
noncomputable def Zz (H:Hp) (p:Addr):Prop:=∃x:Int,H p=some (.lst [.int x])/\0<=x
theorem Zz.ne {H:Hp}{p q:Addr} (P:Zz H p) (h:H q=none):q≠p:=by
 obtain⟨x,e,_⟩:=P
 exact(Zw e h).symm
theorem Zz.same {H H':Hp}{p:Addr} (P:Zz H p) (s:Zg H H'):Zz H' p:=by
 obtain⟨x,e,r⟩:=P
 exact⟨x,s _ _ e,r⟩
theorem Zz.upd {H:Hp}{p q:Addr}{o:HO} (P:Zz H p) (h:H q=none):Zz (L2.upd H q o) p:=P.same ((Zg.refl H).upd h)
theorem Zz.updN {H:Hp}{p q:Addr}{o:HO} (P:Zz H p) (h:q≠p):Zz (L2.upd H q o) p:=by
 obtain⟨x,e,r⟩:=P
 exact⟨x,by rw[Zj h.symm];exact e,r⟩
theorem Zz.some {H:Hp}{p:Addr} (P:Zz H p):H p≠none:=λz=>by obtain⟨x,e,_⟩:=P;rw[z]at e;cases e
theorem cp60:Zkm 10 60:=by unfold Zkm;decide
theorem qm1:IntMulOk (10 ^ Int.toNat 60) (10 ^ Int.toNat 60):=ZiK (by decide +kernel) (by decide +kernel)
theorem qm2:IntMulOk (10 ^ Int.toNat 60*10 ^ Int.toNat 60) (10 ^ Int.toNat 60):=ZiK (by decide +kernel) (by decide +kernel)
theorem qm3:IntMulOk (10 ^ Int.toNat 60*10 ^ Int.toNat 60*10 ^ Int.toNat 60) (10 ^ Int.toNat 60):=ZiK (by decide +kernel) (by decide +kernel)
theorem qm4:(0:Int)<10 ^ Int.toNat 60*10 ^ Int.toNat 60*10 ^ Int.toNat 60*10 ^ Int.toNat 60:=by decide +kernel
end L2
namespace L2
noncomputable def ZV (f:Nat->Int) (p q:Nat):Prop:=q<p/\f q<=f p/\∀r,q<r->r<p->f p<f r
noncomputable def Z9 (f:Nat->Int) (n p r:Nat):Prop:=p<r/\r<n/\f r<f p/\∀s,p<s->s<r->f p<=f s
noncomputable def ZbY (f:Nat->Int) (p:Nat):Prop:=∀q,q<p->f p<f q
noncomputable def ZcA (f:Nat->Int) (n p:Nat):Prop:=∀r,p<r->r<n->f p<=f r
noncomputable def ZK (f:Nat->Int) (n p:Nat) (e:Int):Prop :=
 (ZbY f p/\ZcA f n p/\e=-1)\/(∃q,ZV f p q/\ZcA f n p/\e=q)\/(∃r,ZbY f p/\Z9 f n p r/\e=r) \/
 ∃q r,ZV f p q/\Z9 f n p r/\e=if f q<=f r then (r:Int)else q
theorem Zju {P:Nat->Prop} [DecidablePred P] (i:Nat):∀d r,r+d=i->P r->∃t,r<=t/\t<=i/\P t/\∀s,t<s->s<=i->¬ P s:=by
 intro d
 induction d with
 |zero=>intro r e h;exact⟨r,Ye _,by omega,h,λs h1 h2=>by omega⟩
 |succ d ih =>
  intro r e h
  by_cases hx:∃t,r<t/\t<=i/\P t
  ·obtain⟨t,h1,h2,h3⟩:=hx
   -- step to r+1 by cases
   by_cases h4:P (r+1)
   ·obtain⟨u,u1,u2,u3,u4⟩:=ih (r+1) (by omega) h4
    exact⟨u,by omega,u2,u3,u4⟩
   ·-- go on from the next one
    have gen:∀k t,t+k=i->r<t->P t->∃u,r<=u/\u<=i/\P u/\∀s,u<s->s<=i->¬ P s:=by
     intro k
     induction k with
     |zero=>intro t e h1 h3;exact⟨t,by omega,by omega,h3,λs h1 h2=>by omega⟩
     |succ k ihk =>
      intro t e h1 h3
      by_cases hy:∃s,t<s/\s<=i/\P s
      ·-- the last one of the rest
       have key:∀m,m<=i->(∃s,t<s/\s<=m/\P s)->∃u,t<u/\u<=m/\P u/\∀s,u<s->s<=m->¬ P s:=by
        intro m
        induction m with
        |zero=>rintro _ ⟨s,h5,h6,_⟩;omega
        |succ m ihm =>
         rintro hm ⟨s,h5,h6,h7⟩
         by_cases hp:P (m+1)
         ·exact⟨m+1,by omega,Ye _,hp,λs h1 h2=>by omega⟩
         ·have hs:s<=m:=by
           rcases Nat.lt_or_ge m s with z|z
           ·have:s=m+1:=by omega
            rw[this]at h7;exact absurd h7 hp
           ·exact z
          obtain⟨u,u1,u2,u3,u4⟩:=ihm (by omega) ⟨s,h5,hs,h7⟩
          refine⟨u,u1,by omega,u3,λs' h1 h2=>?_⟩
          by_cases e:s'=m+1
          ·rw[e];exact hp
          ·exact u4 s' h1 (by omega)
       obtain⟨u,u1,u2,u3,u4⟩:=key i (Ye _) hy
       exact⟨u,by omega,u2,u3,u4⟩
      ·exact⟨t,by omega,by omega,h3,λs h1 h2 h5=>hy ⟨s,h1,h2,h5⟩⟩
    exact gen (i-t) t (by omega) h1 h3
  ·exact⟨r,Ye _,by omega,h,λs h1 h2 h3=>hx ⟨s,h1,h2,h3⟩⟩
theorem Zku {P:Nat->Prop} [DecidablePred P] {n r:Nat} (hr:r<n) (h:P r):∃t,r<=t/\t<n/\P t/\∀s,t<s->s<n->¬ P s:=by
 obtain⟨t,h1,h2,h3,h4⟩:=Zju (P:=P) (n-1) (n-1-r) r (by omega) h
 exact⟨t,h1,by omega,h3,λs a b=>h4 s a (by omega)⟩
noncomputable def Zn0 (f:Nat->Int) (i:Nat) (sp:List Nat):Prop:=sp.Pairwise (· < ·)/\∀q,q∈sp↔q<i/\∀r,q<r->r<i->f q<=f r
theorem ZiO (f:Nat->Int) (p:Nat):ZbY f p\/∃q,ZV f p q:=by
 by_cases h:∃q,q<p/\f q<=f p
 ·obtain⟨q,h1,h2⟩:=h
  obtain⟨t,_,t2,t3,t4⟩:=Zku (P:=λq=>f q<=f p) h1 h2
  exact .inr ⟨t,t2,t3,λr a b=>by have:=t4 r a b;omega⟩
 ·exact .inl λq hq=>by
   have:¬ (f q<=f p):=λz=>h ⟨q,hq,z⟩
   omega
theorem ZlX {f:Nat->Int}{i p q:Nat} (hp:p<i) (ho:∀r,p<r->r<i->f p<=f r) (h:ZV f p q):(∀r,q<r->r<i->f q<=f r)/\∀s,q<s->s<p->¬ ∀r,s<r->r<i->f s<=f r:=by
 obtain⟨h1,h2,h3⟩:=h
 refine⟨λr a b=>?_,λs a b z=>?_⟩
 ·rcases Nat.lt_trichotomy r p with c|c|c
  ·have:=h3 r a c;omega
  ·rw[c];exact h2
  ·have:=ho r c b;omega
 ·have:=z p b hp
  have:=h3 s a b
  omega
theorem Zkv {f:Nat->Int}{i:Nat}{A B:List Nat} (hs:Zn0 f i (A++B)) (hA:∀q∈A,f q<=f i) (hB:∀q∈B,f i<f q) :
  Zn0 f (i+1) (A++[i])/\ZK f (i+1) i (match A.getLast? with|some q=>(q:Int)|none=>-1)/\∀p e,p<i->ZK f i p e->ZK f (i+1) p (if B.head?=some p then (i:Int)else e):=by
 obtain⟨hso,hm⟩:=hs
 have hAB:=List.pairwise_append.mp hso
 have noNx:ZcA f (i+1) i:=λr a b=>by omega
 refine⟨⟨?_,λq=>?_⟩,?_,λp e hp he=>?_⟩
 ·refine List.pairwise_append.mpr ⟨hAB.1,List.pairwise_singleton _ _,λa ha b hb=>?_⟩
  have:b=i:=by simpa using hb
  rw[this]
  exact((hm a).mp (YI _ ha)).1
 ·rw[Yz,Y0]
  constructor
  ·rintro(h|h)
   ·obtain⟨h1,h2⟩:=(hm q).mp (YI _ h)
    refine⟨by omega,λr a b=>?_⟩
    by_cases e:r=i
    ·rw[e];exact hA q h
    ·exact h2 r a (by omega)
   ·subst h;exact⟨by omega,λr a b=>by omega⟩
  ·rintro⟨h1,h2⟩
   by_cases e:q=i
   ·exact .inr e
   ·have hq:q∈A++B:=(hm q).mpr ⟨by omega,λr a b=>h2 r a (by omega)⟩
    rcases Yz.mp hq with h|h
    ·exact .inl h
    ·have:=hB q h
     have:=h2 i (by omega) (by omega)
     omega
 ·-- the elder of i
  rcases ZiO f i with h|⟨q,h⟩
  ·have hA0:A=[]:=by
    cases A with
    |nil=>rfl
    |cons a r =>
     have h1:=((hm a).mp (by simp)).1
     have:=hA a (by simp)
     have:=h a h1
     omega
   rw[hA0]
   exact .inl ⟨h,noNx,rfl⟩
  ·have ho:∀r,q<r->r<i->f q<=f r:=λr a b=>by have:=h.2.2 r a b;have:=h.2.1;omega
   have hqA:q∈A:=by
    rcases Yz.mp ((hm q).mpr ⟨h.1,ho⟩)with z|z
    ·exact z
    ·have:=hB q z;have:=h.2.1;omega
   have hlast:A.getLast?=some q:=by
    have hne:A≠[]:=λz=>by rw[z]at hqA;cases hqA
    rw[List.getLast?_eq_some_getLast hne]
    congr 1
    have hl:A.getLast hne∈A:=List.getLast_mem hne
    -- q<=last,and last is not past q
    by_cases e:A.getLast hne=q
    ·exact e
    ·exfalso
     have hlt:q<A.getLast hne:=by
      have hd:=List.dropLast_concat_getLast hne
      have hq2:q∈A.dropLast:=by
       rw[<-hd]at hqA
       rcases Yz.mp hqA with z|z
       ·exact z
       ·exact absurd (by simpa using z) (Ne.symm e)
      have hp2:=hAB.1
      rw[<-hd]at hp2
      exact(List.pairwise_append.mp hp2).2.2 q hq2 _ (by simp)
     have h1:=((hm (A.getLast hne)).mp (YI _ hl)).1
     have:=h.2.2 _ hlt h1
     have:=hA _ hl
     omega
   rw[hlast]
   exact .inr (.inl ⟨q,h,noNx,rfl⟩)
 ·-- the elder of an earlier place
  have nxt:∀r,Z9 f i p r->Z9 f (i+1) p r:=λr ⟨a,b,c,d⟩=>⟨a,by omega,c,d⟩
  by_cases hop:ZcA f i p
  ·have hmem:p∈A++B:=(hm p).mpr ⟨hp,hop⟩
   by_cases hlt:f i<f p
   ·have hnx:Z9 f (i+1) p i:=⟨hp,by omega,hlt,λs a b=>hop s a b⟩
    have hpB:p∈B:=by
     rcases Yz.mp hmem with z|z
     ·have:=hA p z;omega
     ·exact z
    obtain⟨b0,Br,rfl⟩:∃b0 Br,B=b0::Br:=by
     cases B with
     |nil=>cases hpB
     |cons b0 Br=>exact⟨b0,Br,rfl⟩
    have hhead:(b0::Br).head?=some b0:=rfl
    rw[hhead]
    rcases ZiO f p with hn|⟨q,hq⟩
    ·-- nothing ahead: p is the first of all
     have e0:b0=p:=by
      by_cases z:b0=p
      ·exact z
      ·exfalso
       have hpr:p∈Br:=by
        rcases Yk.mp hpB with y|y
        ·exact absurd y.symm z
        ·exact y
       have hlt2:b0<p:=(YW.mp hAB.2.1).1 p hpr
       have:=((hm b0).mp (by simp)).2 p hlt2 hp
       have:=hn b0 hlt2
       omega
     rw[Yd (by rw[e0])]
     exact .inr (.inr (.inl ⟨i,hn,hnx,rfl⟩))
    ·obtain⟨hq1,hq2⟩:=ZlX hp hop hq
     have hqm:q∈A++b0::Br:=(hm q).mpr ⟨Nat.lt_trans hq.1 hp,hq1⟩
     by_cases hqi:f q<=f i
     ·-- q is kept: p is the first of B
      have e0:b0=p:=by
       by_cases z:b0=p
       ·exact z
       ·exfalso
        have hpr:p∈Br:=by
         rcases Yk.mp hpB with y|y
         ·exact absurd y.symm z
         ·exact y
        have hlt2:b0<p:=(YW.mp hAB.2.1).1 p hpr
        have hb0:=(hm b0).mp (by simp)
        have hqA:q∈A:=by
         rcases Yz.mp hqm with y|y
         ·exact y
         ·have:=hB q y;omega
        have hqb:q<b0:=hAB.2.2 q hqA b0 (by simp)
        exact hq2 b0 hqb hlt2 hb0.2
      rw[Yd (by rw[e0])]
      refine .inr (.inr (.inr ⟨q,i,hq,hnx,?_⟩))
      rw[Yd hqi]
     ·-- q goes,too: the elder stays
      have hqB:q∈b0::Br:=by
       rcases Yz.mp hqm with y|y
       ·exact absurd (hA q y) hqi
       ·exact y
      have hne:b0≠p:=by
       intro z
       subst z
       rcases Yk.mp hqB with y|y
       ·have:=hq.1;omega
       ·have:=(YW.mp hAB.2.1).1 q y
        have:=hq.1;omega
      rw[Yb (by intro z;exact hne (Yo z))]
      have ee:e=q:=by
       rcases he with⟨h1,_,_⟩|⟨q',h1,_,h3⟩|⟨r,h1,_,_⟩|⟨q',r,_,h2,_⟩
       ·have:=h1 q hq.1;have:=hq.2.1;omega
       ·have:q'=q:=by
         rcases Nat.lt_trichotomy q' q with y|y|y
         ·have:=h1.2.2 q y hq.1;have:=hq.2.1;omega
         ·exact y
         ·have:=hq.2.2 q' y h1.1;have:=h1.2.1;omega
        rw[h3,this]
       ·have:=h1 q hq.1;have:=hq.2.1;omega
       ·have:=hop r h2.1 h2.2.1;have:=h2.2.2.1;omega
      refine .inr (.inr (.inr ⟨q,i,hq,hnx,?_⟩))
      rw[Yb hqi,ee]
   ·-- still open: not of B
    have hnn:ZcA f (i+1) p:=λr a b=>by
     by_cases z:r=i
     ·rw[z];omega
     ·exact hop r a (by omega)
    have hne:B.head?≠some p:=λz=>by
     have:p∈B:=List.mem_of_head? z
     have:=hB p this
     omega
    rw[Yb hne]
    rcases he with⟨h1,_,h3⟩|⟨q,h1,_,h3⟩|⟨r,_,h2,_⟩|⟨q,r,_,h2,_⟩
    ·exact .inl ⟨h1,hnn,h3⟩
    ·exact .inr (.inl ⟨q,h1,hnn,h3⟩)
    ·have:=hop r h2.1 h2.2.1;have:=h2.2.2.1;omega
    ·have:=hop r h2.1 h2.2.1;have:=h2.2.2.1;omega
  ·-- shut already
   have hne:B.head?≠some p:=λz=>hop ((hm p).mp (Yv _ (List.mem_of_head? z))).2
   rw[Yb hne]
   rcases he with⟨_,h2,_⟩|⟨q,_,h2,_⟩|⟨r,h1,h2,h3⟩|⟨q,r,h1,h2,h3⟩
   ·exact absurd h2 hop
   ·exact absurd h2 hop
   ·exact .inr (.inr (.inl ⟨r,h1,nxt r h2,h3⟩))
   ·exact .inr (.inr (.inr ⟨q,r,h1,nxt r h2,h3⟩))
end L2
namespace L2
open PySem PySem.Spec PyProof.Rows PySem.W
theorem ZgT {α β:Type}{f g:α->Option β}:∀{l:List α},(∀x∈l,f x=g x)->l.filterMap f=l.filterMap g
 |[],_=>rfl
 |x::r,h=>by rw[List.filterMap_cons,List.filterMap_cons,h x (YX ..),ZgT λy hy=>h y (YR _ hy)]
theorem ZlY (its:List Value) (k:Nat) (hk:k<=its.length) (start:Nat):(its.zipIdx start).filterMap (λxk=>if (decide (((start+k:Nat):Int)<=(xk.2:Int))&&decide ((xk.2:Int)<((start+its.length:Nat):Int))&&(((xk.2:Int)-((start+k:Nat):Int)) % 1==0))=true then none else some xk.1)=its.take k:=by
 induction its generalizing k start with
 |nil=>simp
 |cons x r ih =>
  rw[List.zipIdx_cons,List.filterMap_cons]
  cases k with
  |zero =>
   have h1:(decide (((start+0:Nat):Int)<=(start:Int))&&decide ((start:Int)<((start+(x::r).length:Nat):Int))&&(((start:Int)-((start+0:Nat):Int)) % 1==0))=true:=by
    simp;omega
   simp only[h1,if_true]
   have:=ih 0 (by omega) (start+1)
   rw[List.take_zero]at this⊢
   rw[<-this]
   refine ZgT λxk hxk=>?_
   have hm:=List.mem_zipIdx hxk
   have e1:(decide (((start+0:Nat):Int)<=(xk.2:Int)))=(decide (((start+1+0:Nat):Int)<=(xk.2:Int))):=by
    rw[decide_eq_decide];omega
   have e2:((start+(x::r).length:Nat):Int)=((start+1+r.length:Nat):Int):=by simp;omega
   have e3:(((xk.2:Int)-((start+0:Nat):Int)) % 1==0)=(((xk.2:Int)-((start+1+0:Nat):Int)) % 1==0):=by simp[Int.emod_one]
   rw[e1,e2,e3]
  |succ k =>
   have h1:(decide (((start+(k+1):Nat):Int)<=(start:Int))&&decide ((start:Int)<((start+(x::r).length:Nat):Int))&&(((start:Int)-((start+(k+1):Nat):Int)) % 1==0))=false:=by
    have:decide (((start+(k+1):Nat):Int)<=(start:Int))=false:=YE (by omega)
    rw[this];rfl
   simp only[h1,Bool.false_eq_true,if_false]
   rw[List.take_succ_cons]
   congr 1
   have:=ih k (by simpa using hk) (start+1)
   rw[<-this]
   refine ZgT λxk hxk=>?_
   have e1:((start+(k+1):Nat):Int)=((start+1+k:Nat):Int):=by omega
   have e2:((start+(x::r).length:Nat):Int)=((start+1+r.length:Nat):Int):=by simp;omega
   rw[e1,e2]
section
variable {X:Cx}{e st:Expr}{te ts:TE}{pos pos1 p2:Pos}
noncomputable def tDelT (te ts:TE):TS:=λD σ H=>te σ H λx H1=>ts σ H1 λz H2=>∃(l:Addr) (xs:List V) (k:Nat),x=.ref l/\z=.int k/\H2 l=some (.lst xs)/\k<=xs.length/\D.nx σ (upd H2 l (.lst (xs.take k)))
theorem Zkw (he:PE X e te) (hs:PE X st ts):PS X (.Delete [.Subscript e (.Slice (some st) none none p2) pos1] pos) (tDelT te ts):=by
 intro pins s σ H D I h
 refine wpAny_Delete (wpAny_deleteEach_cons ?_)
 show wpAny _ _ (eval e X.env >>= λov=>holding [ov] (eval (.Slice (some st) none none p2) X.env) >>= λiv=>(do standAt pos1;holding [ov,iv] (delItem ov iv);release [ov,iv] [])) _ _ _
 refine Ya (thn (he pins s σ H _ I h) λv s1 ⟨x,H1,I1,r1,q1⟩=>?_)
 refine Ya (wpAny_holding ?_)
 refine wpAny_Slice ?_
 rw[evalPart_some]
 refine thn (hs pins s1 σ H1 _ I1 q1) λvs s2 ⟨z,H2,I2,r2,l,xs,k,e1,e2,hx,hk,q⟩=>?_
 subst e1 e2
 obtain⟨tk,rfl⟩:=r2
 cases r1
 rw[evalPart_none]
 refine Yc ?_
 refine Yc ?_
 have I4:Inv X pins σ H2 {s2 with heap:=s2.heap.push {cls:=.type "slice",data:=.fields #[.int k tk,.none,.none]}}:=I2.kept (t':=s2.toks) λb ob q=>Yn _ q
 have hsl:({s2 with heap:=s2.heap.push {cls:=.type "slice",data:=.fields #[.int k tk,.none,.none]}}:Shared).heap.get? s2.heap.objs.size=some {cls:=.type "slice",data:=.fields #[.int k tk,.none,.none]}:=Yt _ rfl
 obtain⟨z,its,n,r,hlen,hob⟩:=I4.ZlN hx
 generalize ({s2 with heap:=s2.heap.push {cls:=.type "slice",data:=.fields #[.int k tk,.none,.none]}}:Shared)=s4 at I4 hsl hob⊢
 have hT:s4.TypeIs (.ref l) "list":=⟨_,hob,rfl⟩
 have hTs:s4.TypeIs (.ref s2.heap.objs.size) "slice":=⟨_,hsl,rfl⟩
 refine Ya (wpAny_standAt (Ya (wpAny_holding ?_)))
 refine wpAny_delItem_slot hT (by decide) F.slot_list_delitem (wpAny_call_entry F.slot_list_delitem hT F.entry_list_delitem ?_ (F.args_list_delitem_2 _ _))
 show wpAny _ _ (Builtin.List.listSubscript? (.ref s2.heap.objs.size) >>= _) _ _ s4
 refine Ya ?_;unfold Builtin.List.listSubscript?;refine Ya (wpAny_specialOf hTs slice_no_index ?_)
 simp only[Option.isNone_none,if_true];refine Yc ?_
 show wpAny _ _ (typeOf (.ref s2.heap.objs.size) >>= _) _ _ s4
 refine Ya (wpAny_typeOf hTs ?_);rw[Yb (by decide),listSliceParts_eq]
 refine Ya (Ya (wpAny_field hsl rfl (x:=.none) rfl (Ya (wpAny_listPart (k:=none) .none ?_))));rw[Yb (show ¬ ((rawPart none==rawInt 0)=true)from Yr)]
 refine Ya (wpAny_field hsl rfl (x:=.int k tk) rfl (Ya (wpAny_listPart (.int (k:Int) tk) ?_)))
 refine Ya (wpAny_field hsl rfl (x:=.none) rfl (Ya (wpAny_listPart (k:=none) .none (Yc ?_))))
 refine Ya (m:=Builtin.List.listItems (.ref l)) ?_;unfold Builtin.List.listItems
 refine Ya (wpAny_seqItems hob rfl (Yc ?_));refine Ya (wpAny_of_eq (sliceIndices_raw (some (k:Int)) none none its.toArray.size (by simp)) (Ya (wpAny_rule ?_)))
 have hb:sliceBounds (some (k:Int)) none none its.toArray.size=((k:Int),((its.length:Nat):Int),1):=by
  unfold sliceBounds
  simp
  omega
 rw[hb]
 have hf:∀f:Array Value->Array Value,(∀ys:Array Value,f ys=(ys.toList.zipIdx.filterMap λxk=>if (decide ((k:Int)<=(xk.2:Int))&&decide ((xk.2:Int)<((its.length:Nat):Int))&&(((xk.2:Int)-(k:Int)) % 1==0))=true then none else some xk.1).toArray)->f its.toArray=(its.take k).toArray:=λf h=>by
  rw[h]
  congr 1
  have:=ZlY its k (by omega) 0
  simpa using this
 refine Ya (m:=updateSeq l _) ?_
 refine wpAny_updateSeq (n:=n) hob rfl ?_ (by rw[Yl];omega) ?_
 ·refine Ya (wpAny_letGo (Yc ⟨_,rfl,?_⟩))
  refine wpAny_release (wpAny_deleteEach_nil ⟨σ,_,I4.lset hx hob (hf _ λys=>rfl) (r.ZnY k) ?_,q⟩)
  rw[YJ];omega
 ·rw[Yl]
  refine Yj (List.length_filterMap_le _ _) ?_
  rw[List.length_zipIdx]
  show its.length<=sizeLine+1
  omega
end
theorem ZV.unique {f:Nat->Int}{p q q':Nat} (h:ZV f p q) (k:ZV f p q'):q=q':=by
 rcases Nat.lt_trichotomy q q' with z|z|z
 ·have:=h.2.2 q' z k.1;have:=k.2.1;omega
 ·exact z
 ·have:=k.2.2 q z h.1;have:=h.2.1;omega
theorem Z9.unique {f:Nat->Int}{n p r r':Nat} (h:Z9 f n p r) (k:Z9 f n p r'):r=r':=by
 rcases Nat.lt_trichotomy r r' with z|z|z
 ·have:=k.2.2.2 r h.1 z;have:=h.2.2.1;omega
 ·exact z
 ·have:=h.2.2.2 r' k.1 z;have:=k.2.2.1;omega
theorem ZV.no {f:Nat->Int}{p q:Nat} (h:ZV f p q) (k:ZbY f p):False:=by have:=k q h.1;have:=h.2.1;omega
theorem Z9.no {f:Nat->Int}{n p r:Nat} (h:Z9 f n p r) (k:ZcA f n p):False:=by have:=k r h.1 h.2.1;have:=h.2.2.1;omega
theorem ZK.unique {f:Nat->Int}{n p:Nat}{e e':Int} (h:ZK f n p e) (k:ZK f n p e'):e=e':=by
 rcases h with⟨h1,h2,h3⟩|⟨q,h1,h2,h3⟩|⟨r,h1,h2,h3⟩|⟨q,r,h1,h2,h3⟩ <;>
 rcases k with⟨k1,k2,k3⟩|⟨q',k1,k2,k3⟩|⟨r',k1,k2,k3⟩|⟨q',r',k1,k2,k3⟩
 ·rw[h3,k3]
 ·exact(k1.no h1).elim
 ·exact(k2.no h2).elim
 ·exact(k1.no h1).elim
 ·exact(h1.no k1).elim
 ·rw[h3,k3,h1.unique k1]
 ·exact(h1.no k1).elim
 ·exact(k2.no h2).elim
 ·exact(h2.no k2).elim
 ·exact(k1.no h1).elim
 ·rw[h3,k3,h2.unique k2]
 ·exact(k1.no h1).elim
 ·exact(h1.no k1).elim
 ·exact(h2.no k2).elim
 ·exact(h1.no k1).elim
 ·rw[h3,k3,h1.unique k1,h2.unique k2]
noncomputable def ZG (ns:List Int) (es:List Int):Prop:=es.length=ns.length/\∀p,p<ns.length->ZK (nth ns) ns.length p (es.getD p 0)
theorem ZG.unique {ns es es':List Int} (h:ZG ns es) (k:ZG ns es'):es=es':=by
 refine List.ext_getElem (by rw[h.1,k.1]) λj h1 h2=>?_
 have hj:j<ns.length:=by rw[<-h.1];exact h1
 have:=(h.2 j hj).unique (k.2 j hj)
 simpa[YB,h1,h2]using this
theorem Zjv {f:Nat->Int}{n p:Nat} (hp:p<n):ZK f n p
  (match ((List.range p).filter λq=>decide (f q<=f p)).getLast?,((List.range (n-(p+1))).filter λj=>decide (f (p+1+j)<f p)).head? with
   |none,none=>-1
   |none,some j=>((p+1+j:Nat):Int)
   |some q,none=>q
   |some q,some j=>if f q<=f (p+1+j)then ((p+1+j:Nat):Int)else q):=by
 have hA:(((List.range p).filter λq=>decide (f q<=f p)).getLast?=none/\ZbY f p)\/∃q,((List.range p).filter λq=>decide (f q<=f p)).getLast?=some q/\ZV f p q:=by
  induction p with
  |zero=>exact .inl ⟨rfl,λq hq=>by omega⟩
  |succ p _ =>
   generalize p+1=P
   have key:∀m,m<=P->(((List.range m).filter λq=>decide (f q<=f P)).getLast?=none/\∀q,q<m->f P<f q)\/∃q,((List.range m).filter λq=>decide (f q<=f P)).getLast?=some q/\q<m/\f q<=f P/\∀r,q<r->r<m->f P<f r:=by
    intro m
    induction m with
    |zero=>intro _;exact .inl ⟨rfl,λq hq=>by omega⟩
    |succ m ih =>
     intro hm
     rw[YL,List.filter_append]
     by_cases hle:f m<=f P
     ·refine .inr ⟨m,?_,by omega,hle,λr r1 r2=>by omega⟩
      simp[hle]
     ·have e:List.filter (λq=>decide (f q<=f P)) [m]=[]:=by simp[hle]
      rw[e,List.append_nil]
      rcases ih (by omega)with⟨i1,i2⟩|⟨q,i1,i2,i3,i4⟩
      ·refine .inl ⟨i1,λq hq=>?_⟩
       by_cases z:q=m
       ·rw[z];omega
       ·exact i2 q (by omega)
      ·refine .inr ⟨q,i1,by omega,i3,λr r1 r2=>?_⟩
       by_cases z:r=m
       ·rw[z];omega
       ·exact i4 r r1 (by omega)
   rcases key P (Ye _)with⟨i1,i2⟩|⟨q,i1,i2,i3,i4⟩
   ·exact .inl ⟨i1,i2⟩
   ·exact .inr ⟨q,i1,i2,i3,i4⟩
 have hB:(((List.range (n-(p+1))).filter λj=>decide (f (p+1+j)<f p)).head?=none/\ZcA f n p)\/∃j,((List.range (n-(p+1))).filter λj=>decide (f (p+1+j)<f p)).head?=some j/\Z9 f n p (p+1+j):=by
  have key:∀m,(((List.range m).filter λj=>decide (f (p+1+j)<f p)).head?=none/\∀j,j<m->f p<=f (p+1+j))\/∃j,((List.range m).filter λj=>decide (f (p+1+j)<f p)).head?=some j/\j<m/\f (p+1+j)<f p/\∀i,i<j->f p<=f (p+1+i):=by
   intro m
   induction m with
   |zero=>exact .inl ⟨rfl,λq hq=>by omega⟩
   |succ m ih =>
    rw[YL,List.filter_append]
    rcases ih with⟨i1,i2⟩|⟨j,i1,i2,i3,i4⟩
    ·have e0:List.filter (λj=>decide (f (p+1+j)<f p)) (List.range m)=[]:=List.head?_eq_none_iff.mp i1
     rw[e0,List.nil_append]
     by_cases hlt:f (p+1+m)<f p
     ·refine .inr ⟨m,by simp[hlt],by omega,hlt,λi hi=>i2 i hi⟩
     ·refine .inl ⟨by simp[hlt],λj hj=>?_⟩
      by_cases z:j=m
      ·rw[z];omega
      ·exact i2 j (by omega)
    ·refine .inr ⟨j,?_,by omega,i3,i4⟩
     rw[List.head?_append,i1];rfl
  rcases key (n-(p+1))with⟨i1,i2⟩|⟨j,i1,i2,i3,i4⟩
  ·refine .inl ⟨i1,λr r1 r2=>?_⟩
   have:=i2 (r-(p+1)) (by omega)
   have e:p+1+(r-(p+1))=r:=by omega
   rw[e]at this;exact this
  ·refine .inr ⟨j,i1,by omega,by omega,i3,λs s1 s2=>?_⟩
   have:=i4 (s-(p+1)) (by omega)
   have e:p+1+(s-(p+1))=s:=by omega
   rw[e]at this;exact this
 rcases hA with⟨a1,a2⟩|⟨q,a1,a2⟩<;>rcases hB with⟨b1,b2⟩|⟨j,b1,b2⟩<;>rw[a1,b1]
 ·exact .inl ⟨a2,b2,rfl⟩
 ·exact .inr (.inr (.inl ⟨_,a2,b2,rfl⟩))
 ·exact .inr (.inl ⟨_,a2,b2,rfl⟩)
 ·exact .inr (.inr (.inr ⟨_,_,a2,b2,rfl⟩))
end L2
namespace L2
noncomputable def Over (f:Nat->Int) (o p:Nat):Prop:=(o<p/\∀r,o<r->r<=p->f o<=f r)\/(p<o/\∀r,p<=r->r<o->f o<f r)
theorem Over.irrefl {f:Nat->Int}{p:Nat}:¬ Over f p p:=by rintro(⟨h,_⟩|⟨h,_⟩)<;>omega
theorem Over.trans {f:Nat->Int}{o e p:Nat} (h:Over f o e) (k:Over f e p):Over f o p:=by
 rcases h with⟨h1,h2⟩|⟨h1,h2⟩<;>rcases k with⟨k1,k2⟩|⟨k1,k2⟩
 ·refine .inl ⟨by omega,λr r1 r2=>?_⟩
  by_cases z:r<=e
  ·exact h2 r r1 z
  ·have:=k2 r (by omega) r2;have:=h2 e h1 (Ye _);omega
 ·have he:=h2 e h1 (Ye _)
  rcases Nat.lt_trichotomy o p with z|z|z
  ·exact .inl ⟨z,λr r1 r2=>h2 r r1 (by omega)⟩
  ·have:=k2 p (Ye _) k1;subst z;omega
  ·exact .inr ⟨z,λr r1 r2=>by have:=k2 r r1 (by omega);omega⟩
 ·have he:=h2 e (Ye _) h1
  rcases Nat.lt_trichotomy o p with z|z|z
  ·exact .inl ⟨z,λr r1 r2=>by have:=k2 r (by omega) r2;omega⟩
  ·have:=k2 p k1 (Ye _);subst z;omega
  ·exact .inr ⟨z,λr r1 r2=>h2 r (by omega) r2⟩
 ·refine .inr ⟨by omega,λr r1 r2=>?_⟩
  by_cases z:r<e
  ·have:=k2 r r1 z;have:=h2 e (Ye _) h1;omega
  ·exact h2 r (by omega) r2
theorem ZeY {f:Nat->Int}{n p:Nat}{e:Int} (hp:p<n) (h:ZK f n p e):e=-1\/∃q:Nat,e=q/\q<n/\Over f q p:=by
 have pv:∀q,ZV f p q->Over f q p:=λq h=>.inl ⟨h.1,λr r1 r2=>by
  by_cases z:r=p
  ·rw[z];exact h.2.1
  ·have:=h.2.2 r r1 (by omega);have:=h.2.1;omega⟩
 have nx:∀q,Z9 f n p q->Over f q p:=λq h=>.inr ⟨h.1,λr r1 r2=>by
  by_cases z:r=p
  ·rw[z];exact h.2.2.1
  ·have:=h.2.2.2 r (by omega) r2;have:=h.2.2.1;omega⟩
 rcases h with⟨_,_,h⟩|⟨q,h1,_,h⟩|⟨r,_,h1,h⟩|⟨q,r,h1,h2,h⟩
 ·exact .inl h
 ·exact .inr ⟨q,h,by have:=h1.1;omega,pv q h1⟩
 ·exact .inr ⟨r,h,h1.2.1,nx r h1⟩
 ·by_cases z:f q<=f r
  ·rw[Yd z]at h;exact .inr ⟨r,h,h2.2.1,nx r h2⟩
  ·rw[Yb z]at h;exact .inr ⟨q,h,by have:=h1.1;omega,pv q h1⟩
theorem Zh5 {f:Nat->Int}{n p o:Nat}{e:Int} (hp:p<n) (ho:o<n) (h:ZK f n p e) (hO:Over f o p):∃q:Nat,e=q/\q<n/\(o=q\/Over f o q):=by
 rcases hO with⟨o1,o2⟩|⟨o1,o2⟩
 ·have op:=o2 p o1 (Ye _)
  have pv:∀q,ZV f p q->o=q\/(o<q/\Over f o q/\f o<=f q):=λq h=>by
   rcases Nat.lt_trichotomy o q with z|z|z
   ·have:=h.1;exact .inr ⟨z,.inl ⟨z,λr r1 r2=>o2 r r1 (by omega)⟩,o2 q z (by omega)⟩
   ·exact .inl z
   ·have:=h.2.2 o z o1;omega
  rcases h with⟨h1,_,h⟩|⟨q,h1,_,h⟩|⟨r,h1,_,h⟩|⟨q,r,h1,h2,h⟩
  ·have:=h1 o o1;omega
  ·refine⟨q,h,by have:=h1.1;omega,?_⟩
   rcases pv q h1 with z|z
   ·exact .inl z
   ·exact .inr z.2.1
  ·have:=h1 o o1;omega
  ·by_cases z:f q<=f r
   ·rw[Yd z]at h
    refine⟨r,h,h2.2.1,.inr (.inl ⟨by have:=h2.1;omega,λs s1 s2=>?_⟩)⟩
    by_cases sp:s<=p
    ·exact o2 s s1 sp
    ·by_cases sr:s=r
     ·rw[sr]
      rcases pv q h1 with y|y
      ·rw[y];exact z
      ·have:=y.2.2;omega
     ·have:=h2.2.2.2 s (by omega) (by omega);omega
   ·rw[Yb z]at h
    refine⟨q,h,by have:=h1.1;omega,?_⟩
    rcases pv q h1 with z|z
    ·exact .inl z
    ·exact .inr z.2.1
 ·have op:=o2 p (Ye _) o1
  have nx:∀r,Z9 f n p r->o=r\/(r<o/\Over f o r/\f o<f r):=λr h=>by
   rcases Nat.lt_trichotomy o r with z|z|z
   ·have:=h.2.2.2 o o1 z;omega
   ·exact .inl z
   ·have:=h.1;exact .inr ⟨z,.inr ⟨z,λs s1 s2=>o2 s (by omega) s2⟩,o2 r (by omega) z⟩
  rcases h with⟨_,h1,h⟩|⟨q,_,h1,h⟩|⟨r,_,h1,h⟩|⟨q,r,h1,h2,h⟩
  ·have:=h1 o o1 ho;omega
  ·have:=h1 o o1 ho;omega
  ·refine⟨r,h,h1.2.1,?_⟩
   rcases nx r h1 with z|z
   ·exact .inl z
   ·exact .inr z.2.1
  ·by_cases z:f q<=f r
   ·rw[Yd z]at h
    refine⟨r,h,h2.2.1,?_⟩
    rcases nx r h2 with z|z
    ·exact .inl z
    ·exact .inr z.2.1
   ·rw[Yb z]at h
    refine⟨q,h,by have:=h1.1;omega,.inr (.inr ⟨by have:=h1.1;omega,λs s1 s2=>?_⟩)⟩
    by_cases sp:p<=s
    ·exact o2 s sp s2
    ·by_cases sq:s=q
     ·rw[sq]
      rcases nx r h2 with y|y
      ·rw[y];omega
      ·have:=y.2.2;omega
     ·have:=h1.2.2 s (by omega) (by omega);omega
theorem Zjw {f:Nat->Int}{n p o q:Nat} (hp:p<n) (ho:o<n) (h:ZK f n p (q:Int)):Over f o p↔o=q\/Over f o q:=by
 refine⟨λk=>?_,λk=>?_⟩
 ·obtain⟨q',e,_,z⟩:=Zh5 hp ho h k
  have:q'=q:=by omega
  rw[this]at z;exact z
 ·rcases ZeY hp h with z|⟨q',e,_,z⟩
  ·omega
  ·have:q'=q:=by omega
   rw[this]at z
   rcases k with k|k
   ·rw[k];exact z
   ·exact k.trans z
theorem Zh6 {f:Nat->Int}{n p o:Nat} (hp:p<n) (ho:o<n) (h:ZK f n p (-1)):¬ Over f o p:=λk=>by
 obtain⟨q',e,_,z⟩:=Zh5 hp ho h k
 omega
theorem ZgU {P Q:Nat->Bool}:∀n,(∀o,o<n->P o=Q o)->(List.range n).countP P=(List.range n).countP Q
 |0,_=>rfl
 |n+1,h=>by
  rw[YL,List.countP_append,List.countP_append,ZgU n (λo ho=>h o (by omega))]
  simp[List.countP_cons,h n (by omega)]
theorem ZeZ {P Q:Nat->Bool}{e:Nat}:∀n,e<n->(∀o,o<n->(P o=true↔o=e\/Q o=true))->Q e=false->(List.range n).countP P=(List.range n).countP Q+1
 |0,h,_,_=>by omega
 |n+1,h,hi,hq=>by
  rw[YL,List.countP_append,List.countP_append]
  by_cases z:e=n
  ·have e1:(List.range n).countP P=(List.range n).countP Q:=ZgU n λo ho=>by
    have:=hi o (by omega)
    cases hP:P o<;>cases hQ:Q o<;>simp[hP,hQ]at this<;>first|rfl|omega
   have hPn:P n=true:=(hi n (by omega)).mpr (.inl z.symm)
   rw[z]at hq
   rw[e1];simp[List.countP_cons,hPn,hq]
  ·rw[ZeZ n (by omega) (λo ho=>hi o (by omega)) hq]
   have:=hi n (by omega)
   have hn:P n=Q n:=by
    cases hP:P n<;>cases hQ:Q n<;>simp[hP,hQ]at this<;>first|rfl|omega
   simp[List.countP_cons,hn];omega
theorem Zn1 {P:Nat->Bool}{e n:Nat} (he:e<n) (h:P e=false):(List.range n).countP P<n:=by
 have h1:=ZeZ (P:=λo=>decide (o=e)||P o) (Q:=P) n he (λo _=>by simp) h
 have h2:=List.countP_le_length (p:=λo=>decide (o=e)||P o) (l:=List.range n)
 rw[h1,Y1]at h2
 omega
noncomputable def Za8 (T:List Int):Nat->Int->List Nat
 |0,_=>[]
 |k+1,at_=>if 0<=at_/\at_<T.length then at_.toNat::Za8 T k (nth T at_.toNat)else []
open Classical in
noncomputable def dep (f:Nat->Int) (n p:Nat):Nat:=(List.range n).countP λo=>decide (Over f o p)
theorem Zn2 {f:Nat->Int}{n p:Nat} (hp:p<n):dep f n p<n:=by
 classical
 exact Zn1 hp (by simpa using Over.irrefl)
theorem ZlZ {f:Nat->Int}{n p q:Nat} (hp:p<n) (h:ZK f n p (q:Int)):dep f n p=dep f n q+1:=by
 classical
 have hq:q<n:=by
  rcases ZeY hp h with z|⟨q',e,z,_⟩<;>omega
 exact ZeZ n hq (λo ho=>by simpa using Zjw hp ho h) (by simpa using Over.irrefl)
theorem ZpB {f:Nat->Int}{n p:Nat} (hp:p<n) (h:ZK f n p (-1)):dep f n p=0:=by
 classical
 unfold dep
 rw[List.countP_eq_zero]
 intro o ho
 simpa using Zh6 hp (by simpa using ho) h
theorem ZgV {ns T:List Int} (hT:ZG ns T):∀k p,p<ns.length->dep (nth ns) ns.length p<=k->(∀o,o∈Za8 T k (nth T p)↔o<ns.length/\Over (nth ns) o p)/\(Za8 T k (nth T p)).length=dep (nth ns) ns.length p
 |k,p,hp,hk=>by
  have hE:ZK (nth ns) ns.length p (nth T p):=hT.2 p hp
  rcases ZeY hp hE with z|⟨q,e,hq,hO⟩
  ·have e0:Za8 T k (nth T p)=[]:=by
    cases k with
    |zero=>rfl
    |succ k=>rw[Za8,Yb (by omega)]
   rw[e0]
   rw[z]at hE
   exact⟨λo=>⟨λh=>by simp at h,λh=>absurd h.2 (Zh6 hp h.1 hE)⟩,by rw[ZpB hp hE];rfl⟩
  ·rw[e]at hE
   have hd:=ZlZ hp hE
   obtain⟨k',rfl⟩:∃k',k=k'+1:=⟨k-1,by omega⟩
   have ih:=ZgV hT k' q hq (by omega)
   have eT:((q:Nat):Int).toNat=q:=by omega
   rw[Za8,e,Yd ⟨by omega,by rw[hT.1];omega⟩,eT]
   refine⟨λo=>?_,by simp[ih.2,hd]⟩
   rw[Yk,ih.1 o]
   refine⟨λh=>?_,λh=>?_⟩
   ·rcases h with h|h
    ·rw[h];exact⟨hq,hO⟩
    ·exact⟨h.1,h.2.trans hO⟩
   ·rcases(Zjw hp h.1 hE).mp h.2 with z|z
    ·exact .inl z
    ·exact .inr ⟨h.1,z⟩
end L2
namespace L2
open PySem PySem.Spec PyProof.Rows PySem.W
noncomputable def Zgs (es:List Int) (A B:List Nat) (i:Nat):List Int:=match A.getLast? with
 |some q=>(match B.head? with|some b=>es.set b i|none=>es).set i (q:Int)
 |none=>match B.head? with|some b=>es.set b i|none=>es
noncomputable def Zy (l:List Nat):List V:=l.map λq=>V.int (q:Nat)
theorem Zfj (l:List Int) (a p:Nat) (v:Int) (h:p<l.length):(l.set a v).getD p 0=if a=p then v else l.getD p 0:=by
 rw[YB,YB]
 by_cases e:a=p
 ·subst e;rw[Yd rfl,List.getElem?_set_self h];rfl
 ·rw[Yb e,List.getElem?_set_ne e]
theorem Zn3 (es:List Int) (A B:List Nat) (i:Nat):(Zgs es A B i).length=es.length:=by
 unfold Zgs
 cases A.getLast?<;>cases B.head?<;>simp
theorem Zlq (es:List Int) (A B:List Nat) (i p:Nat) (hp:p<es.length) (hb:∀b,B.head?=some b->b≠i):(Zgs es A B i).getD p 0=if p=i then (match A.getLast? with|some q=>(q:Int)|none=>es.getD i 0)else if B.head?=some p then (i:Int)else es.getD p 0:=by
 unfold Zgs
 cases hA:A.getLast? with
 |none =>
  cases hB:B.head? with
  |none =>
   by_cases e:p=i
   ·rw[Yd e,e]
   ·rw[Yb e,Yb (by simp)]
  |some b =>
   show(es.set b i).getD p 0=_
   rw[Zfj _ _ _ _ hp]
   by_cases e:p=i
   ·rw[Yd e,Yb (by rw[e];exact hb b hB),e]
   ·rw[Yb e]
    by_cases e2:b=p
    ·rw[Yd e2,Yd (by rw[e2])]
    ·rw[Yb e2,Yb (by intro z;exact e2 (Yo z))]
 |some q =>
  cases hB:B.head? with
  |none =>
   show(es.set i q).getD p 0=_
   rw[Zfj _ _ _ _ hp]
   by_cases e:p=i
   ·rw[Yd e,Yd e.symm]
   ·rw[Yb e,Yb (λz=>e z.symm),Yb (by simp)]
  |some b =>
   show((es.set b i).set i q).getD p 0=_
   rw[Zfj _ _ _ _ (by simpa using hp),Zfj _ _ _ _ hp]
   by_cases e:p=i
   ·rw[Yd e,Yd e.symm]
   ·rw[Yb e,Yb (λz=>e z.symm)]
    by_cases e2:b=p
    ·rw[Yd e2,Yd (by rw[e2])]
    ·rw[Yb e2,Yb (by intro z;exact e2 (Yo z))]
theorem Zn4:∀(l:List Nat) (i lo:Nat),l.Pairwise (· < ·)->(∀q∈l,lo<=q/\q<i)->l.length+lo<=i\/l=[]
 |[],_,_,_,_=>.inr rfl
 |q::r,i,lo,h,hq=>by
  have h1:=hq q (by simp)
  have hr:=YW.mp h
  rcases Zn4 r i (q+1) hr.2 (λx hx=>⟨hr.1 x hx,(hq x (by simp[hx])).2⟩)with z|z
  ·left;simp;omega
  ·left;rw[z];simp;omega
theorem ZE (l:List Nat):(Zy l).length=l.length:=by simp[Zy]
theorem ZeD (a b:List Nat):Zy (a++b)=Zy a++Zy b:=by simp[Zy]
theorem Zdk {l:List Nat}{j q:Nat} (h:l[j]?=some q):atI (Zy l) (j:Int)=some (V.int (q:Nat)):=by
 have hj:=(Yi.mp h).1
 have e:=(Yi.mp h).2
 rw[ZiJ rfl (by rw[ZE];exact hj)]
 simp[Zy,e]
theorem Zlr {n j:Nat} (h:j<n):ixN n (j:Int)=some j:=by
 unfold ixN
 rw[Yd (by omega),Yd (by omega)];simp
noncomputable def wayI (T:List Int) (p:Nat):List Int:=(Za8 T T.length (nth T p)).map λq=>((q:Nat):Int)
theorem Zjx (T:List Int):∀k a,(Za8 T k a).length<=k
 |0,_=>by simp[Za8]
 |k+1,a=>by
  rw[Za8]
  split
  ·have:=Zjx T k (nth T a.toNat);simp;omega
  ·simp
noncomputable def ZaL (T:List Int):Nat->Int->Int
 |0,a=>a
 |j+1,a=>if 0<=a/\a<T.length then ZaL T j (nth T a.toNat)else a
theorem Zh7 (T:List Int):∀j a,0<=ZaL T j a->ZaL T j a<T.length->(Za8 T j a).length=j->Za8 T (j+1) a=Za8 T j a++[(ZaL T j a).toNat]/\ZaL T (j+1) a=nth T (ZaL T j a).toNat
 |0,a,h0,h1,_=>by
  have h0':0<=a:=h0
  have h1':a<T.length:=h1
  constructor
  ·simp[Za8,ZaL,h0',h1']
  ·simp[ZaL,h0',h1']
 |j+1,a,h0,h1,hl=>by
  rw[Za8]at hl
  by_cases z:0<=a/\a<T.length
  ·rw[Yd z]at hl
   have e1:ZaL T (j+1) a=ZaL T j (nth T a.toNat):=by rw[ZaL,Yd z]
   rw[e1]at h0 h1
   have ih:=Zh7 T j (nth T a.toNat) h0 h1 (by simpa using hl)
   constructor
   ·rw[Za8,Yd z,ih.1,Za8.eq_def T (j+1) a]
    simp only[Yd z,e1];simp
   ·rw[ZaL,Yd z,ih.2,e1]
  ·rw[Yb z]at hl;simp at hl
theorem Zh8 (T:List Int):∀j k a,j<=k->(Za8 T j a).length=j->¬ (0<=ZaL T j a/\ZaL T j a<T.length)->Za8 T k a=Za8 T j a
 |0,k,a,_,_,h=>by
  have h':¬ (0<=a/\a<T.length):=h
  cases k with
  |zero=>rfl
  |succ k=>rw[show Za8 T 0 a=[]from rfl,Za8,Yb h']
 |j+1,k,a,hk,hl,h=>by
  rw[Za8]at hl
  by_cases z:0<=a/\a<T.length
  ·rw[Yd z]at hl
   rw[ZaL,Yd z]at h
   obtain⟨k',rfl⟩:∃k',k=k'+1:=⟨k-1,by omega⟩
   rw[Za8,Yd z,Zh8 T j k' _ (by omega) (by simpa using hl) h,Za8,Yd z]
  ·rw[Yb z]at hl;simp at hl
theorem ZaO {a b:TS}{D:Ends}{σ:St}{H:Hp} (Mid:St->Hp->Prop) (h1:∀R:St->Hp->Prop,(∀σ' H',Mid σ' H'->R σ' H')->a {D with nx:=R} σ H) (h2:∀σ' H',Mid σ' H'->b D σ' H'):tSeq a b D σ H:=h1 _ h2
theorem Zkx (xs:List V) (j:Nat):Zbx xs none (some (j:Int))=xs.take j:=by
 have h:¬ ((j:Int)<0):=by omega
 unfold Zbx HT.sIx
 simp only[Yb h,List.drop_zero,Nat.sub_zero]
 rw[List.take_eq_take_iff]
 omega
theorem Zl0 (xs:List V) (j:Nat):Zbx xs (some (j:Int)) none=xs.drop j:=by
 have h:¬ ((j:Int)<0):=by omega
 unfold Zbx HT.sIx
 simp only[Yb h,Y4]
 by_cases z:j<=xs.length
 ·rw[Nat.min_eq_left z]
  exact List.take_of_length_le (by rw[YT];omega)
 ·rw[Nat.min_eq_right (by omega),Nat.sub_self,List.take_zero,List.drop_eq_nil_of_le (show xs.length<=j by omega)]
end L2
namespace L2
open PySem PySem.Spec PyProof.Rows
structure CellsOf (cl:List (Str×Addr)) (n0:Nat) (cs:List (Str×Addr)) (h0 h:Heap) (done:List (Str×NameKind)):Prop where
 old:∀b o,h0.get? b=some o->h.get? b=some o
 sz:n0<=h.objs.size
 mem:∀p∈cs,p∈cl\/(n0<=p.2/\p.2<h.objs.size/\h.IsCell p.2 none)
 inj:∀p∈cs,∀q∈cs,n0<=p.2->p.2=q.2->p.1=q.1
 own:∀y∈done,y.2=.cell->∃c,cs.lookup y.1=some c/\n0<=c
 oth:∀x,(∀y∈done,y.2=.cell->y.1≠x)->cs.lookup x=cl.lookup x
theorem ZfH {M:Model}{A:Around}{E:Value->Shared->Prop}{cl:List (Str×Addr)}{n0:Nat}{h0:Heap} (hcl:∀p∈cl,p.2<n0):∀(names:List (Str×NameKind)) (cs:List (Str×Addr)) (done:List (Str×NameKind)) (s:Shared),CellsOf cl n0 cs h0 s.heap done ->
  wpAny M A (forIn names cs λ(x:Str×NameKind) (r:List (Str×Addr))=>(match x with
   |(name,kind)=>if (kind==NameKind.cell)=true then do
     let a <-alloc {cls:=.type "cell",data:=.cell none}
     pure (ForInStep.yield ((name,a)::r))
    else pure (ForInStep.yield r):Sem (ForInStep (List (Str×Addr))))) (λcs' s'=>∃h',s'={s with heap:=h'}/\CellsOf cl n0 cs' h0 h' (done++names)) E s
 |[],cs,done,s,I=>by
  rw[List.forIn_nil,List.append_nil]
  exact Yc ⟨s.heap,rfl,I⟩
 |(n,k)::r,cs,done,s,I=>by
  rw[List.forIn_cons]
  by_cases hk:k=.cell
  ·subst hk
   simp only[beq_self_eq_true,if_true]
   refine Ya (Ya (wpAny_alloc (Yc ?_)))
   have hget:(s.heap.push {cls:=.type "cell",data:=.cell none}).get? s.heap.objs.size=some {cls:=.type "cell",data:=.cell none}:=Yt _ rfl
   have I':CellsOf cl n0 ((n,s.heap.objs.size)::cs) h0 (s.heap.push {cls:=.type "cell",data:=.cell none}) (done++[(n,.cell)]):=by
    refine⟨λb o e=>Yn _ (I.old b o e),by rw[Heap.size_push];exact Nat.le_succ_of_le I.sz,λp hp=>?_,λp hp q hq hn e=>?_,λy hy hc=>?_,λx hx=>?_⟩
    ·rcases Yk.mp hp with z|z
     ·subst z
      exact .inr ⟨I.sz,by rw[Heap.size_push];exact Nat.lt_succ_self _,_,hget,rfl⟩
     ·rcases I.mem p z with w|⟨w1,w2,o,w3,w4⟩
      ·exact .inl w
      ·exact .inr ⟨w1,by rw[Heap.size_push];exact YO w2,o,Yn _ w3,w4⟩
    ·have lt:∀p∈cs,p.2<s.heap.objs.size:=λp hp=>by
      rcases I.mem p hp with w|w
      ·exact Ym (hcl p w) I.sz
      ·exact w.2.1
     rcases Yk.mp hp with z|z<;>rcases Yk.mp hq with z'|z'
     ·rw[z,z']
     ·subst z;exact absurd (show s.heap.objs.size<s.heap.objs.size from(show s.heap.objs.size=q.2 from e)▸lt q z') (Yu _)
     ·subst z';exact absurd (show s.heap.objs.size<s.heap.objs.size from(show p.2=s.heap.objs.size from e)▸lt p z) (Yu _)
     ·exact I.inj p z q z' hn e
    ·rcases Yz.mp hy with z|z
     ·obtain⟨c,e1,e2⟩:=I.own y z hc
      by_cases hx:y.1=n
      ·exact⟨s.heap.objs.size,by rw[hx];simp,I.sz⟩
      ·have hb:(y.1==n)=false:=by simpa using hx
       exact⟨c,by simp only[List.lookup_cons,hb];exact e1,e2⟩
     ·have:y=(n,.cell):=by simpa using z
      subst this
      exact⟨s.heap.objs.size,by simp,I.sz⟩
    ·have hxn:n≠x:=hx (n,.cell) (by simp) rfl
     have hb:(x==n)=false:=by simpa using hxn.symm
     simp only[List.lookup_cons,hb]
     exact I.oth x λy hy=>hx y (YI _ hy)
   refine thn (ZfH hcl r _ _ {s with heap:=s.heap.push {cls:=.type "cell",data:=.cell none}} I') λcs' s' ⟨h',e1,e2⟩=>⟨h',e1,?_⟩
   rw[YV]at e2
   exact e2
  ·have e1:(k==NameKind.cell)=false:=by cases k<;>first|rfl|exact absurd rfl hk
   simp only[e1,Bool.false_eq_true,if_false]
   refine Ya (Yc ?_)
   have I':CellsOf cl n0 cs h0 s.heap (done++[(n,k)]):=by
    refine⟨I.old,I.sz,I.mem,I.inj,λy hy hc=>?_,λx hx=>I.oth x λy hy=>hx y (YI _ hy)⟩
    rcases Yz.mp hy with z|z
    ·exact I.own y z hc
    ·have:y=(n,k):=by simpa using z
     subst this
     exact absurd hc hk
   refine thn (ZfH hcl r _ _ s I') λcs' s' ⟨h',e1,e2⟩=>⟨h',e1,?_⟩
   rw[YV]at e2
   exact e2
theorem Zky {M:Model}{A:Around}{E:Value->Shared->Prop}{s:Shared}{scope:Scope}{globals:Addr}{cl:List (Str×Addr)}{qual:Str}{around:Env}{Q:Env->Shared->Prop} (hcl:∀p∈cl,p.2<s.heap.objs.size)
  (h:∀cs h',CellsOf cl (s.heap.objs.size+1) cs (s.heap.push {cls:=.type "dict",data:=.dict #[]}) h' scope.names->Q {scope:=scope,locals:=s.heap.objs.size,globals:=globals,cells:=cs,qual:=qual,func:=none,code:=around.code,frame:=around.frame,builtins:=around.builtins} {s with heap:=h'}) :
  wpAny M A (newFunctionEnv scope globals cl [] qual none .none (some around)) Q E s:=by
 unfold newFunctionEnv
 refine Ya (wpAny_alloc ?_)
 refine Ya (thn (ZfH (cl:=cl) (n0:=s.heap.objs.size+1) (h0:=s.heap.push {cls:=.type "dict",data:=.dict #[]}) (λp hp=>YO (hcl p hp)) scope.names cl [] {s with heap:=s.heap.push {cls:=.type "dict",data:=.dict #[]}} ⟨λb o e=>e,by rw[Heap.size_push];exact Ye _,λp hp=>.inl hp,λp hp q hq hn e=>absurd (hcl p hp) (Nat.not_lt_of_le (Nat.le_of_succ_le hn)),λy hy=>(nomatch hy),λx hx=>rfl⟩) λcs s' ⟨h',e1,e2⟩=>?_)
 subst e1
 rw[List.nil_append]at e2
 exact Ya (Yc (Yc (h cs h' e2)))
noncomputable def Zbk (around scope:Scope):Bool :=
 scope.kind==.function&&around.kind==.function&&scope.names.all λy=>match y.2 with
  |.local=>scope.names.lookup y.1==some .local
  |.cell=>scope.names.lookup y.1==some .cell
  |.free=>(scope.names.lookup y.1==some .free)&&(around.names.lookup y.1==some .cell||around.names.lookup y.1==some .free)
  |_=>true
theorem Zfk {a s:Scope} (h:Zbk a s=true):s.kind=.function:=by
 simp only[Zbk,Bool.and_eq_true,beq_iff_eq]at h;exact h.1.1
theorem Ze0 {a s:Scope} (h:Zbk a s=true) {y:Str×NameKind} (hy:y∈s.names):(match y.2 with
  |.local=>s.names.lookup y.1==some .local
  |.cell=>s.names.lookup y.1==some .cell
  |.free=>(s.names.lookup y.1==some .free)&&(a.names.lookup y.1==some .cell||a.names.lookup y.1==some .free)
  |_=>true)=true:=by
 simp only[Zbk,Bool.and_eq_true]at h
 exact List.all_eq_true.mp h.2 y hy
theorem ZhB {a s:Scope} (h:Zbk a s=true):∀y∈s.names,y.2=.local->s.names.lookup y.1=some .local:=λy hy e=>by
 have q:=Ze0 h hy
 rw[e]at q
 exact beq_iff_eq.mp q
theorem ZiP {a s:Scope} (h:Zbk a s=true):∀y∈s.names,y.2=.cell->s.names.lookup y.1=some .cell:=λy hy e=>by
 have q:=Ze0 h hy
 rw[e]at q
 exact beq_iff_eq.mp q
theorem Zds {a s:Scope} (h:Zbk a s=true):∀y∈s.names,y.2=.free->s.names.lookup y.1=some .free/\(a.names.lookup y.1=some .cell\/a.names.lookup y.1=some .free):=λy hy e=>by
 have q:=Ze0 h hy
 rw[e]at q
 simp only[Bool.and_eq_true,Bool.or_eq_true,beq_iff_eq]at q
 exact q
noncomputable def ZaB (X:Cx) (Nc:List Str) (scope:Scope) (cs:List (Str×Addr)) (C:Addr) (s2:Shared) (H2:Hp) (fp:List Addr):Cx :=
 {ZnP X Nc scope cs C s2 H2 fp with fn:=λx=>scope.names.lookup x==some .cell}
theorem Zjy {env:Env}{scope:Scope} (h:∀y∈scope.names,y.2=.free->∃c,env.cells.lookup y.1=some c) :
  ∃cl,closureFor scope env=pure cl/\(∀p∈cl,env.cells.lookup p.1=some p.2)/\(∀y∈scope.names,y.2=.free->∃c,cl.lookup y.1=some c/\env.cells.lookup y.1=some c):=by
 obtain⟨cl,e,h1,h2,h3⟩:=Zdq (env:=env) scope.names [] h
 have up:∀p∈cl,env.cells.lookup p.1=some p.2:=λp q=>by
  rcases h1 _ q with z|z
  ·cases z
  ·exact z
 refine⟨cl,?_,up,λy hy hf=>?_⟩
 ·unfold closureFor
  simp only[bind_pure_comp]at e⊢
  rw[e]
  exact pure_bind _ _
 ·obtain⟨c,hc⟩:=h3 y hy hf
  cases q:cl.lookup y.1 with
  |none=>exact absurd (List.lookup_eq_none_iff.mp q _ hc) (by simp)
  |some c'=>exact⟨c',rfl,up _ (PySem.mem_of_lookup q)⟩
section
variable {X:Cx}
theorem Zjz {pins:List (Addr×Obj)}{σ:St}{H2:Hp}{s2:Shared}{Nc:List Str}{js:List (Option Nat)}{scope:Scope}{cs:List (Str×Addr)}{fp:List Addr}{h1:Heap}{tk:Nat}{D C:Addr}{oD:Obj}{m:Str->Option Value}
  (I:Inv X pins σ H2 s2) (hok:Zbk X.env.scope scope=true) (htk:Zbi X.N Nc scope js 0=true) (up:∀x c,cs.lookup x=some c->X.env.cells.lookup x=some c\/(C<c/\h1.IsCell c none)) (hinj:∀x y c,cs.lookup x=some c->cs.lookup y=some c->x=y) (hown:∀y∈scope.names,y.2=.cell->∃c,cs.lookup y.1=some c/\C<c) (hfr:∀y∈scope.names,y.2=.free->∃c,cs.lookup y.1=some c/\X.env.cells.lookup y.1=some c)
  (hfp:∀b∈fp,FpOk X pins H2 b) (hfl:∀b∈fp,b<s2.heap.objs.size) (hD:D=s2.heap.objs.size) (hC:C=s2.heap.objs.size+1) (old:∀b o,s2.heap.get? b=some o->h1.get? b=some o) (hns:h1.Ns C m) (hoD:h1.get? D=some oD) (hdD:∀v,oD.data≠.cell v) :
  Inv (ZaB X Nc scope cs C s2 H2 fp) [(D,oD)] (iniC js σ) H2 {s2 with heap:=h1,toks:=tk}:=by
 have leC:s2.heap.objs.size<=C:=by rw[hC];exact Nat.le_succ _
 have leD:s2.heap.objs.size<=D:=Nat.le_of_eq hD.symm
 have kf:∀x,((compEnvC scope cs C X.env).kindOf x=some .cell\/(compEnvC scope cs C X.env).kindOf x=some .free)->∃c,cs.lookup x=some c:=λx hx=>by
  have:∃k,(compEnvC scope cs C X.env).kindOf x=some k/\(k=.cell\/k=.free):=hx.elim (λq=>⟨_,q,.inl rfl⟩) λq=>⟨_,q,.inr rfl⟩
  obtain⟨k,e,hk⟩:=this
  obtain⟨k',h1,h2⟩:=Za6 (show(scope.names.map _).lookup x=some k from e)
  have hm:=lookup_mem h1
  have:k'=.free\/k'=.cell:=by
   rcases h2 with q|q
   ·subst q
    exact hk.symm
   ·exact .inl q.1
  rcases this with z|z
  ·subst z
   obtain⟨c,q,_⟩:=hfr _ hm rfl
   exact⟨c,q⟩
  ·subst z
   obtain⟨c,q,_⟩:=hown _ hm rfl
   exact⟨c,q⟩
 have nC:∀c x,X.env.cells.lookup x=some c->c<s2.heap.objs.size:=λc x e=>by
  obtain⟨v,q⟩:=I.cell x c e
  exact q.lt
 have noB:∀b,b∈fp->b∉frs X.stack:=λb hb q=>by
  rcases Yk.mp (I.ZeS b q)with z|z
  ·exact(hfp b hb).2.1 z
  ·exact(hfp b hb).2.2.1 z
 have okX:(ZaB X Nc scope cs C s2 H2 fp).Ok:=by
  refine⟨I.ok.mod,(show scope.kind=.function from Zfk hok),I.ok.glob,I.ok.blt,?_,λx y c e1 e2=>hinj x y c e1 e2,λx hx=>?_,(λx c e1 e2=>?_),I.ok.hd,I.ok.frames,.inl rfl,λb hb=>⟨?_,λx c e=>(up _ _ e).elim (λz=>(hfp b hb).2.2.2.2.1 x c z) λz=>Nat.ne_of_gt (Nat.lt_trans (Ym (hfl b hb) leC) z.1)⟩,I.bs,Yj I.ok.bsz I.sz,λb o e hb=>?_,λb hb=>noB b hb,I.stack,I.Ziq⟩
  ·show s2.heap.objs.size<=C;exact leC
  ·exact kf x hx
  ·have hm:=lookup_mem (beq_iff_eq.mp (show(scope.names.lookup x==some NameKind.cell)=true from e1))
   obtain⟨c',q1,q2⟩:=hown _ hm rfl
   have:c=c':=Yo ((show cs.lookup x=some c from e2).symm.trans q1)
   rw[this]
   exact Yj leC (YN q2)
  ·exact Yp (Ym (hfl b hb) leC)
  ·rcases(hfp b hb).2.2.2.1 with q|q
   ·exact I.ok.noex b o e q
   ·exact absurd (Ym (Yh e) (Yj I.ok.bsz q)) (Yu _)
 refine⟨okX,rfl,I.bare,Un.kept old,⟨m,hns,λi x v e1 e2 e3=>?_⟩,λx c e=>?_,I.hok.fresh leC,λx c e=>(up _ _ e).elim (λz=>I.freeC x c z) λz=>I.hok.fresh (Yj leC (YN z.1)),λp hp=>?_,I.hok.kept old,?_⟩
 ·have e2':(iniC js σ)[i]?=some (some v):=e2
  unfold iniC at e2'
  rw[Yw]at e2'
  cases q:js[i]? with
  |none=>rw[q]at e2';cases e2'
  |some j0 =>
   cases j0 with
   |none=>rw[q]at e2';cases e2'
   |some j =>
    rw[q]at e2'
    simp only[Option.map_some,Option.some.injEq]at e2'
    have e4:σ[j]?=some (some v):=by
     cases z:σ[j]? with
     |none=>rw[z]at e2';cases e2'
     |some o=>rw[z]at e2';simp only[Option.join_some]at e2';rw[e2']
    obtain⟨y,y1,y2,y3⟩:=ZfF htk q
    rw[Nat.zero_add]at y1
    have:x=y:=Yo ((show Nc[i]?=some x from e1).symm.trans y1)
    subst this
    have hm:=lookup_mem y3
    obtain⟨c,c1,c2⟩:=hfr _ hm rfl
    have hk:=(Zds hok _ hm rfl).2
    obtain⟨m0,hn0,hl0⟩:=I.loc
    obtain⟨u,r,l⟩:=hl0 j x v y2 e4 (hk.elim (λz=>.inr (.inl z)) λz=>.inr (.inr z))
    refine⟨u,r,.inr ⟨?_,c,c1,?_⟩⟩
    ·rcases e3 with z|z|z
     ·obtain⟨k',w1,w2⟩:=Za6 (show(scope.names.map _).lookup x=some NameKind.local from z)
      rw[y3]at w1;cases w1
      rcases w2 with w|w
      ·cases w
      ·cases w.2
     ·exact .inl z
     ·exact .inr z
    ·rcases l with⟨lk,_⟩|⟨_,c',c3,c4⟩
     ·rcases hk with z|z
      ·rw[show X.env.kindOf x=some .cell from z]at lk;cases lk
      ·rw[show X.env.kindOf x=some .free from z]at lk;cases lk
     ·rw[c2]at c3;cases c3
      obtain⟨oc,w1,w2⟩:=c4
      exact⟨oc,old _ _ w1,w2⟩
 ·rcases up _ _ e with z|z
  ·obtain⟨v,oc,w1,w2⟩:=I.cell x c z
   exact⟨v,oc,old _ _ w1,w2⟩
  ·exact⟨_,z.2⟩
 ·have:p=(D,oD):=by
   have hp':p∈([]++[(D,oD)]:List (Addr×Obj)):=hp
   simpa using hp'
  subst this
  refine⟨hoD,I.hok.fresh leD,(by show D≠C;rw[hD,hC];exact Yp (Nat.lt_succ_self _)),λhb=>?_,hdD⟩
  have hb':D∈frs X.stack:=hb
  obtain⟨_,o,ho,_⟩:=I.stack.mem hb'
  exact absurd (Ym (Yh ho) leD) (Yu _)
 ·have:=ZeX htk
  show(iniC js σ).length=Nc.length
  unfold iniC;rw[Yg];omega
theorem Zh9 {pins:List (Addr×Obj)}{σ:St}{H:Hp}{s:Shared}{tg elt iter:Expr}{ifs:List Expr}{scope:Scope}{pos:Pos}{wi:TI}{g:TG}{tt:TT}{te:TE}{Nc:List Str}{js:List (Option Nat)}{use:Option (Value->Sem Unit)}{Q:VK}{QQ:Value->Shared->Prop}
  (hc:X.calm=true) (hok:Zbk X.env.scope scope=true) (htk:Zbi X.N Nc scope js 0=true) (hi:PI X tg iter wi)
  (hg:∀cl C s2 H2 fp,PG (ZaB X Nc scope cl C s2 H2 fp) tg g) (ht:∀cl C s2 H2 fp,ZlQ (ZaB X Nc scope cl C s2 H2 fp) ifs tt) (he:∀cl C s2 H2 fp,PE (ZaB X Nc scope cl C s2 H2 fp) elt te)
  (hs:∀x,foldedSetIterable iter X.env x=pure x) {L:List Nat} (ho:Zh1 g L) (hL:(L.all λk=>js[k]?==some none)=true) (I:Inv X pins σ H s) (h:Zlh wi g tt te js σ H Q)
  (fin:∀(D C:Addr) (H' H2:Hp) (s2 s':Shared) (xs:List V) (m:Str->Option Value),Inv X pins σ H2 s2->H' C=none->C=D+1->D=s2.heap.objs.size->s'.heap.Ns C m->(∀h',Heap.SameBut C s'.heap h'->Inv X pins σ (upd H' D (.lst xs)) {s' with heap:=h'})->Q (.ref D) (upd H' D (.lst xs)) ->
   compPost (model X.prog X.w) X.A X.xe use QQ (.ref D) C (.ok .next) s') :
  wpAny (model X.prog X.w) X.A (comprehension (.ListComp elt [⟨tg,iter,ifs,0⟩] scope pos) scope X.env (firstIterPos [⟨tg,iter,ifs,0⟩] pos) (newList []) false (eval iter X.env) use) QQ X.xe s:=by
 have hcells:∀y∈scope.names,y.2=.free->∃c,X.env.cells.lookup y.1=some c:=λy hy hf=>I.ok.has y.1 (Zds hok y hy hf).2
 obtain⟨cl,hcl,upM,hfr0⟩:=Zjy hcells
 have hk:=Zfk hok
 refine wpAny_comprehension_free (use:=use) rfl hs hcl hk (ZhB hok) (thn (hi pins s σ H _ I h) λv s1 h1=>thn h1 λitv s2 h2=>?_)
 obtain⟨it,fp,tn,J,H2,e,I2,T,st2,f2,W,⟨m0,w0⟩,turn⟩:=h2
 subst e
 have clt:∀p∈cl,p.2<s2.heap.objs.size:=λp hp=>by
  obtain⟨v,q⟩:=I2.cell p.1 p.2 (upM p hp)
  exact q.lt
 refine wpAny_newObj_type (Zky (λp hp=>?_) λcs h₁ CO=>?_)
 ·show p.2<(s2.heap.push _).objs.size
  rw[Heap.size_push];exact YO (clt p hp)
 dsimp only at CO⊢
 generalize hH2:s2.heap.push {cls:=.type "list",dict:=none,data:=.seq ([]:List Value).toArray}=HH at CO⊢
 have hC:HH.objs.size=s2.heap.objs.size+1:=by rw[<-hH2,Heap.size_push]
 have hcl':∀p∈cl,p.2<HH.objs.size:=λp hp=>by rw[hC];exact YO (clt p hp)
 have hns₁:h₁.Ns HH.objs.size (λ_=>none):=⟨_,#[],_,CO.old _ _ (Yt _ rfl),rfl,λe he=>absurd he (by simp),λn=>rfl⟩
 have up:∀x c,cs.lookup x=some c->X.env.cells.lookup x=some c\/(HH.objs.size<c/\h₁.IsCell c none):=λx c e=>by
  rcases CO.mem _ (PySem.mem_of_lookup e)with z|z
  ·exact .inl (upM _ z)
  ·exact .inr ⟨z.1,z.2.2⟩
 have hinj:∀x y c,cs.lookup x=some c->cs.lookup y=some c->x=y:=λx y c e1 e2=>by
  have m1:=PySem.mem_of_lookup e1
  have m2:=PySem.mem_of_lookup e2
  rcases CO.mem _ m1 with z|z
  ·rcases CO.mem _ m2 with z'|z'
   ·exact I2.ok.inj x y c (upM _ z) (upM _ z')
   ·exact absurd (hcl' _ z) (Nat.not_lt_of_le (Nat.le_of_succ_le z'.1))
  ·exact CO.inj _ m1 _ m2 z.1 rfl
 have hfr:∀y∈scope.names,y.2=.free->∃c,cs.lookup y.1=some c/\X.env.cells.lookup y.1=some c:=λy hy hf=>by
  obtain⟨c,q1,q2⟩:=hfr0 y hy hf
  refine⟨c,?_,q2⟩
  rw[CO.oth y.1 λy' hy' hc' z=>?_]
  ·exact q1
  ·have w1:=ZiP hok y' hy' hc'
   have w2:=(Zds hok y hy hf).1
   rw[z,w2]at w1;cases w1
 have hfl:∀b∈fp,b<s2.heap.objs.size:=λb hb=>by
  obtain⟨o,ho,_⟩:=T.obj 0 _ st2 b hb
  exact Yh ho
 have hDC:s2.heap.objs.size≠HH.objs.size:=by rw[hC];exact Yp (Nat.lt_succ_self _)
 have old:∀b o,s2.heap.get? b=some o->h₁.get? b=some o:=λb o e=>CO.old b o (Yn _ (hH2▸Yn _ e))
 have hacc:h₁.get? s2.heap.objs.size=some {cls:=.type "list",dict:=none,data:=.seq ([]:List Value).toArray}:=CO.old _ _ (Yn _ (hH2▸Yt _ rfl))
 have I4:=Zjz (Nc:=Nc) (js:=js) (tk:=s2.toks) I2 hok htk up hinj (λy hy hc=>CO.own y hy hc) hfr f2 hfl rfl hC old hns₁ hacc (by intro v z;cases z)
 have st4:tn 0 h₁:=T.keep _ _ _ st2 λb _ o e=>old b o e
 generalize hXc:ZaB X Nc scope cs HH.objs.size s2 H2 fp=Xc at I4
 have hXA:Xc.A=X.A:=by rw[<-hXc];rfl
 have hXe:Xc.env=compEnvC scope cs HH.objs.size X.env:=by rw[<-hXc];rfl
 have hXp:Xc.prog=X.prog:=by rw[<-hXc];rfl
 have hXw:Xc.w=X.w:=by rw[<-hXc];rfl
 have hXx:Xc.xe=λ_ _=>False:=by rw[<-hXc];rfl
 have hXk:Xc.K=X.K:=by rw[<-hXc];rfl
 have hXcalm:Xc.calm=true:=by rw[<-hXc];exact hc
 have fpok:∀{pl:List (Addr×Obj)}{H':Hp},(∀p∈pl,s2.heap.objs.size<=p.1)->(∀b∈fp,H' b=none)->∀b∈fp,FpOk Xc pl H' b:=λ{pl H'} hpl hn b hb=>by
  have k1:b≠HH.objs.size:=Yp (by rw[hC];exact YO (hfl b hb))
  have k2:b∉frs X.stack:=λq=>by
   rcases Yk.mp (I2.ZeS b q)with z|z
   ·exact(f2 b hb).2.1 z
   ·exact(f2 b hb).2.2.1 z
  rw[<-hXc]
  refine⟨hn b hb,k1,k2,.inl hb,λx c e=>(up _ _ e).elim (λz=>(f2 b hb).2.2.2.2.1 x c z) λz=>Nat.ne_of_gt (Nat.lt_trans (by rw[hC];exact YO (hfl b hb)) z.1),λp hp=>?_⟩
  have hp':p∈pl:=by simpa[ZaB,ZnP]using hp
  exact Nat.ne_of_gt (Ym (hfl b hb) (hpl p hp'))
 have gX:PG Xc tg g:=hXc▸hg cs HH.objs.size s2 H2 fp
 have tX:ZlQ Xc ifs tt:=hXc▸ht cs HH.objs.size s2 H2 fp
 have eX:PE Xc elt te:=hXc▸he cs HH.objs.size s2 H2 fp
 have hs0:Xc.s₀=s2:=by rw[<-hXc];rfl
 have hh0:Xc.H₀=H2:=by rw[<-hXc];rfl
 have hfs:Xc.fs=frs X.stack:=by rw[<-hXc];rfl
 have hex:Xc.ex=fp:=by rw[<-hXc];rfl
 have loop:codeAny (model X.prog X.w) X.A (.compLoop (.ListComp elt [⟨tg,iter,ifs,0⟩] scope pos) 0 (.ref it) (.ref s2.heap.objs.size) (compEnvC scope cs HH.objs.size X.env)) (compPost (model X.prog X.w) X.A X.xe use QQ (.ref s2.heap.objs.size) HH.objs.size)
   {s2 with heap:=h₁,toks:=s2.toks}:=by
  refine Zd7 (λn s'=>∃i acc its nn H',Inv Xc [(s2.heap.objs.size,{cls:=.type "list",dict:=none,data:=.seq (its:List Value).toArray nn})] (iniC js σ) H' s'/\Vals acc its/\acc.length<=sizeLine/\tn i s'.heap/\(∀b∈fp,H' b=none)/\W i n acc H') ?_ m0
   ⟨0,[],[],0,H2,I4,.nil,Ys _,st4,λb hb=>(f2 b hb).1,w0⟩
  rintro n s3 ⟨i,acc,its,nn,H3,I3,va,hlen,st3,fr3,w3⟩
  have pg:∀p∈([(s2.heap.objs.size,{cls:=.type "list",dict:=none,data:=.seq its.toArray nn})]:List (Addr×Obj)),s2.heap.objs.size<=p.1:=λp hp=>by
   simp only[Yk,List.not_mem_nil,or_false]at hp
   subst hp;exact Ye _
  rcases turn i n acc H3 w3 with⟨stop,hl,qn⟩|⟨go,hl,step⟩
  ·have q:=T.done Xc hXp hXw hXk hXcalm i _ s3 (iniC js σ) H3 (λ_ _=>False) I3 (fpok pg fr3) st3 stop
   rw[hXA]at q
   refine thn q λr s4 ⟨hr,I5⟩=>?_
   subst hr
   have hpin:=I5.pin _ (Yv _ (.head _))
   obtain⟨m5,hn5,_⟩:=I5.loc
   rw[hXe]at hn5
   refine fin _ _ H3 H2 s2 s4 acc m5 I2 (by have:=I5.free;rw[hXe]at this;exact this) hC rfl hn5 (λh' hsb=>?_) (qn _ hpin.2.1)
   have same:∀b o,b≠HH.objs.size->s4.heap.get? b=some o->h'.get? b=some o:=λb o hb e=>hsb.extBut b o hb e
   have un:=I5.base
   rw[hfs,hex,hh0,hs0]at un
   have lt:∀b o,s2.heap.get? b=some o->b<s2.heap.objs.size:=λb o e=>Yh e
   have neC:∀b o,s2.heap.get? b=some o->b≠HH.objs.size:=λb o e=>Yp (by rw[hC];exact YO (lt b o e))
   have neD:∀b o,s2.heap.get? b=some o->b≠s2.heap.objs.size:=λb o e=>Yp (lt b o e)
   have trkC:∀b o,H3 b=some o->b≠HH.objs.size:=λb o e z=>by
    have:=I5.free;rw[hXe]at this;rw[z,show H3 HH.objs.size=none from this]at e;cases e
   refine I2.call' (s':={s4 with heap:=h'}) (ch:=fp) (I5.os.trans (by rw[hs0])) ⟨λb o e n hb hx=>same _ _ (neC b o e) (un.keep b o e n hb hx),λb o e n hb hx=>?_,λb o e n hx=>by rw[Zj (neD b o e)];exact un.free b o e n hx,λb o e hx=>?_,λb xs e=>?_,λb o u e=>?_,λb ps e=>?_⟩ (λa o e=>?_) I5.bare λb hb=>⟨(f2 b hb).2.2.2.1,(f2 b hb).2.1,(f2 b hb).2.2.2.2.1,(f2 b hb).2.2.2.2.2⟩
   ·obtain⟨sl,z⟩:=un.slot b o e n hb hx
    exact⟨sl,same _ _ (neC b o e) z⟩
   ·obtain⟨o',z⟩:=un.there b o e hx
    exact⟨o',same _ _ (neC b o e) z⟩
   ·rw[Zj (Yp (I2.hok.lt e))];exact un.tups b xs e
   ·rw[Zj (Yp (I2.hok.lt e))];exact un.frzs b o u e
   ·obtain⟨more,z⟩:=un.tbls b ps e
    exact⟨more,by rw[Zj (Yp (I2.hok.lt e))];exact z⟩
   ·by_cases ha:a=s2.heap.objs.size
    ·subst ha
     rw[Zc]at e;cases e
     exact⟨hl,its,nn,va,same _ _ hDC hpin.1⟩
    ·rw[Zj ha]at e
     have q:=I5.hok a o e
     rw[hXp,hXw]at q
     refine q.Zgp (λb u hb z=>same b u ?_ z) (λb z=>by rw[Zj];exact z;intro y;subst y;rw[hpin.2.1]at z;cases z) (λb xs z=>by rw[Zj];exact z;intro y;subst y;rw[hpin.2.1]at z;cases z) λb o u z=>by rw[Zj];exact z;intro y;subst y;rw[hpin.2.1]at z;cases z
     rcases hb with hb|hb
     ·subst hb;exact trkC _ _ e
     ·exact trkC _ _ hb
  ·have q:=T.item Xc hXp hXw hXk hXcalm i _ s3 (iniC js σ) H3 (λ_ _=>False) I3 (fpok pg fr3) st3 go
   rw[hXA]at q
   refine thn q λr s4 ⟨u,hr,h4⟩=>?_
   subst hr
   refine thn h4 λ_ s5 ⟨x,H5,I5,r5,y5,st5,fr5⟩=>?_
   have I5':=I5.pinned (fpok pg fr5) (T.obj _ _ st5)
   have again:∀{σ7:St}{H7:Hp}{s7:Shared}{acc7:List V}{its7:List Value}{n7:Nat}{m:Nat},Inv Xc ([(s2.heap.objs.size,{cls:=.type "list",dict:=none,data:=.seq its7.toArray n7})]++Zd2 fp s5.heap) σ7 H7 s7->Vals acc7 its7->acc7.length<=sizeLine->W (i+1) m acc7 H7->σ7.length=(iniC js σ).length->(∀(k:Nat) v,(iniC js σ)[k]?=some (some v)->σ7[k]?=some (some v)) ->
     ∃i acc its nn H',Inv Xc [(s2.heap.objs.size,{cls:=.type "list",dict:=none,data:=.seq (its:List Value).toArray nn})] (iniC js σ) H' s7/\Vals acc its/\acc.length<=sizeLine/\tn i s7.heap/\(∀b∈fp,H' b=none)/\W i m acc H':=λ{σ7 H7 s7 acc7 its7 n7 m} I7 v7 l7 w7 hl7 hw7=>by
    refine⟨i+1,acc7,its7,n7,H7,(I7.weak hl7.symm hw7).Zd3,v7,l7,T.keep _ _ _ st5 λb hb o e=>(I7.pin (b,o) (Yv _ (Yv _ (Zdp hb e)))).1,λb hb=>?_,w7⟩
    obtain⟨o,e,d⟩:=T.obj _ _ st5 b hb
    exact(I7.pin (b,o) (Yv _ (Yv _ (Zdp hb e)))).2.1
   have keep:∀{σ6:St},ZcZ L (iniC js σ) σ6->σ6.length=(iniC js σ).length/\∀(k:Nat) v,(iniC js σ)[k]?=some (some v)->σ6[k]?=some (some v):=λ{σ6} hk=>⟨hk.1,λk v e=>by
    rw[hk.2 k]
    ·exact e
    ·intro z
     have q:=List.all_eq_true.mp hL k z
     simp only[beq_iff_eq]at q
     unfold iniC at e
     rw[Yw,q]at e
     cases e⟩
   have q6:=gX _ s5 (iniC js σ) H5 x u _ I5' r5 (ho _ _ _ _ _ (fun σ' H' kk z=>And.intro kk z) (step x H5 y5))
   rw[hXe,hXA,hXp,hXw,hXx]at q6
   refine thn q6 λ_ s6 ⟨σ6,H6,I6,k6,q6⟩=>?_
   obtain⟨kl,kv⟩:=keep k6
   have q7:=tX _ s6 σ6 H6 _ I6 q6
   rw[hXe,hXA,hXp,hXw,hXx]at q7
   refine thn q7 λb s7 ⟨H7,I7,q7⟩=>?_
   cases b with
   |false =>
    obtain⟨m',hm,w7⟩:=q7
    exact⟨m',hm,again I7 va hlen w7 kl kv⟩
   |true =>
    have q8:=eX _ s7 σ6 H7 _ I7 q7
    rw[hXe,hXA,hXp,hXw,hXx]at q8
    refine thn q8 λy s8 ⟨v8,H8,I8,r8,m',hm,w8⟩=>?_
    have pinD:=I8.pin _ (Yv _ (YI _ (.head _)))
    have hnf:∀p∈Zd2 fp s5.heap,p.1≠s2.heap.objs.size:=λp hp=>by
     obtain⟨z,_⟩:=ZhT hp
     exact Yp (hfl _ z)
    have va':=va.length
    refine call_meets F.slot_list_append ⟨_,pinD.1,rfl⟩ F.entry_list_append (F.args_list_append_2 _ _) (PySem.list_append s2.heap.objs.size its.toArray nn y (by rw[Yl];omega)) ⟨pinD.1,?_⟩
    have e9:=PySem.IsL.update pinD.1 (λa=>a.push y)
    have e9':its.toArray.push y=(its++[y]).toArray:=by simp
    dsimp only at e9
    rw[e9']at e9
    have I8':Inv Xc (Zd2 fp s5.heap) σ6 H8 s8:=I8.Zff λp hp=>I8.pin p (Yv _ (Yv _ hp))
    have hXpn:Xc.pn=[]:=by rw[<-hXc];rfl
    have hXs:s2.heap.objs.size∉frs X.stack:=by rw[<-hfs];exact pinD.2.2.2.1
    have I9:=I8'.turned (t':=s8.toks) (it:=s2.heap.objs.size) (h':=s8.heap.update s2.heap.objs.size (Obj.mapSeq λa=>a.push y)) (λb o hb e=>(Heap.get?_update_other s8.heap _ (Ne.symm hb)).trans e) pinD.2.1 pinD.2.2.1
     (.inr (by rw[hs0];exact Ye _)) (λx c e=>by
      rw[hXe]at e
      intro z
      rcases up _ _ e with y|y
      ·obtain⟨v,q⟩:=I2.cell x c y
       exact absurd q.lt (by rw[z];exact Yu _)
      ·have:=y.1
       rw[z,hC]at this
       exact absurd this (Nat.not_lt_of_le (Nat.le_succ _))) (λp hp=>by rw[hXpn,List.nil_append]at hp;exact hnf p hp)
    have I10:=I9.Zff (pins':=[(s2.heap.objs.size,{cls:=.type "list",dict:=none,data:=.seq (its++[y]).toArray _})]++Zd2 fp s5.heap) λp hp=>by
     rcases Yz.mp hp with z|z
     ·simp only[Yk,List.not_mem_nil,or_false]at z
      subst z
      exact⟨e9,pinD.2.1,pinD.2.2.1,pinD.2.2.2.1,by intro v z;cases z⟩
     ·exact I9.pin p (Yv _ z)
    exact⟨m',hm,again I10 (va.append (.cons r8 .nil)) (by rw[Yy,List.length_singleton];omega) w8 kl kv⟩
 exact codeAny_compStart_list loop (T.self _ 0 _ _ _ st4 loop)
theorem ZbS {tg elt iter:Expr}{ifs:List Expr}{scope:Scope}{pos:Pos}{wi:TI}{g:TG}{tt:TT}{te:TE} (Nc:List Str) (js:List (Option Nat)) {L:List Nat}
  (hc:X.calm=true) (hok:Zbk X.env.scope scope=true) (htk:Zbi X.N Nc scope js 0=true) (hi:PI X tg iter wi)
  (hg:∀cl C s2 H2 fp,PG (ZaB X Nc scope cl C s2 H2 fp) tg g) (ht:∀cl C s2 H2 fp,ZlQ (ZaB X Nc scope cl C s2 H2 fp) ifs tt) (he:∀cl C s2 H2 fp,PE (ZaB X Nc scope cl C s2 H2 fp) elt te)
  (ho:Zh1 g L) (hL:(L.all λk=>js[k]?==some none)=true:=by rfl) (hs:∀x,foldedSetIterable iter X.env x=pure x:=by intro _;rfl):PE X (.ListComp elt [⟨tg,iter,ifs,0⟩] scope pos) (Zlh wi g tt te js):=by
 intro pins s σ H Q I h
 rw[eval_ListComp]
 exact Zh9 (use:=none) hc hok htk hi hg ht he hs ho hL I h λD C H' H2 s2 s' xs m I2 hHC e1 e2 hn hI q=>⟨m,hn,λh' hsb=>⟨.ref D,_,hI h' hsb,rfl,q⟩⟩
theorem Zea {i:Nat}{x:Str}{pos' spos:Pos}{tg elt iter:Expr}{ifs:List Expr}{scope:Scope}{pos:Pos}{wi:TI}{g:TG}{tt:TT}{te:TE} (Nc:List Str) (js:List (Option Nat)) {L:List Nat}
  (hN:X.N.Nodup) (hxi:X.N[i]?=some x) (hx:Loc X.env.scope x)
  (hc:X.calm=true) (hok:Zbk X.env.scope scope=true) (htk:Zbi X.N Nc scope js 0=true) (hi:PI X tg iter wi)
  (hg:∀cl C s2 H2 fp,PG (ZaB X Nc scope cl C s2 H2 fp) tg g) (ht:∀cl C s2 H2 fp,ZlQ (ZaB X Nc scope cl C s2 H2 fp) ifs tt) (he:∀cl C s2 H2 fp,PE (ZaB X Nc scope cl C s2 H2 fp) elt te)
  (ho:Zh1 g L) (hL:(L.all λk=>js[k]?==some none)=true:=by rfl) (hs:∀x,foldedSetIterable iter X.env x=pure x:=by intro _;rfl)
  (hsw:swapsWith (.ListComp elt [⟨tg,iter,ifs,0⟩] scope pos) (some (.Name x pos')) spos.line X.env=pure true:=by rfl)
  (hf:X.fn x=true\/X.env.scope.names.lookup x=some .local:=by first|exact .inl rfl|exact .inr rfl|assumption) :
  PS X (.Assign [.Name x pos'] (.ListComp elt [⟨tg,iter,ifs,0⟩] scope pos) spos) (tAsg (Zlh wi g tt te js) (gName i)):=by
 intro pins s σ H D I h
 rw[exec_Assign_Name_used _ _ _ _ hsw]
 refine Ya (wpAny_standAt (Ya ?_))
 show wpAny _ _ (comprehension _ _ _ _ _ _ _ _ >>= _) _ _ _
 refine Ya (thn (Q:=λ_ s'=>∃σ' H',Inv X pins σ' H' s'/\D.nx σ' H') (Zh9 (Q:=λv H1=>gName i v σ H1 D.nx) (use:=some (assign (.Name x pos') X.env)) hc hok htk hi hg ht he hs ho hL I h ?_) λ_ s' ⟨σ',H',I',q⟩=>Yc (Yc ⟨σ',H',I',q⟩))
 intro D' C H' H2 s2 s' xs m I2 hHC e1 e2 hn hI q
 obtain⟨oC,es,ep,hoC,hdC,hrest⟩:=id hn
 have leC:s2.heap.objs.size<=C:=by rw[e1,e2];exact Nat.le_succ _
 have ltC:s2.heap.objs.size<C:=by rw[e1,e2];exact Nat.lt_succ_self _
 have neDC:C≠D':=by rw[e2];exact Nat.ne_of_gt ltC
 have fresh:s2.heap.get? C=none:=by
  cases e:s2.heap.get? C with
  |none=>rfl
  |some o=>exact absurd (Ym (Yh e) leC) (Yu _)
 have neL:C≠X.env.locals:=Nat.ne_of_gt (Ym I2.lt leC)
 have nfs:C∉X.fs:=I2.nofs leC
 have ncl:∀x c,X.env.cells.lookup x=some c->c≠C:=λx c e z=>by
  obtain⟨v,q⟩:=I2.cell x c e
  exact absurd (Ym q.lt leC) (by rw[z];exact Yu _)
 have npn:∀p∈X.pn++pins,p.1≠C:=λp hp z=>by
  have:=(I2.pin p hp).1
  rw[z,fresh]at this;cases this
 have hH:(upd H' D' (HO.lst xs)) C=none:=by rw[Zj neDC];exact hHC
 have I0:=hI s'.heap ZiD
 have I1:Inv X (pins++[(C,oC)]) σ (upd H' D' (.lst xs)) s':=I0.Zff λp hp=>by
  rcases Yz.mp hp with z|z
  ·exact I0.pin p (Yv _ z)
  ·simp only[Yk,List.not_mem_nil,or_false]at z
   subst z
   exact⟨hoC,hH,neL,nfs,λv z=>by rw[hdC]at z;cases z⟩
 show wpAny _ _ _ _ _ _
 refine thn (Zu (X:=X) (i:=i) hN hxi hx hf (pins++[(C,oC)]) s' σ _ (.ref D') (.ref D') _ I1 rfl q) λ_ s3 ⟨σ3,H3,I3,q3⟩=>?_
 have pC:=I3.pin (C,oC) (Yv _ (Yv _ (.head _)))
 refine⟨m,⟨oC,es,ep,pC.1,hdC,hrest⟩,λh' hsb=>⟨σ3,H3,?_,q3⟩⟩
 exact I3.Zd3.turned (t':=s3.toks) (it:=C) (λb o hb e=>hsb.extBut b o hb e) pC.2.1 neL (.inr (Yj I2.sz leC)) ncl npn
end
end L2
namespace L2
open PySem PySem.Spec PyProof.Rows PySem.W
noncomputable def CF (n:Nat) (P:Nat->Bool) (vals:Nat->V) (H1:Hp) (i m:Nat) (acc:List V) (H:Hp):Prop:=m=n-i/\i<=n/\acc=((List.range i).filter P).map vals/\Zg H1 H
theorem CF.take {n:Nat}{P:Nat->Bool}{vals:Nat->V}{H1 H:Hp}{i:Nat}{v:V} (hi:i<n) (hP:P i=true) (hv:v=vals i) (s:Zg H1 H):∃m',m'<n-i/\CF n P vals H1 (i+1) m' (((List.range i).filter P).map vals++[v]) H :=
 ⟨n-(i+1),by omega,rfl,hi,by rw[YL,List.filter_append,YD,hv];simp[hP],s⟩
theorem CF.skip {n:Nat}{P:Nat->Bool}{vals:Nat->V}{H1 H:Hp}{i:Nat} (hi:i<n) (hP:P i=false) (s:Zg H1 H):∃m',m'<n-i/\CF n P vals H1 (i+1) m' (((List.range i).filter P).map vals) H :=
 ⟨n-(i+1),by omega,rfl,hi,by rw[YL,List.filter_append,YD];simp[hP],s⟩
theorem ZeE {J:It}{n:Nat}{H1:Hp}{g:TG}{tt:TT}{te:TE}{σ0:St}{Q:VK} (P:Nat->Bool) (vals:Nat->V) (hn:n<sizeLine) (hgo:∀i H,Zg H1 H->i<n->J.go i H) (hstop:∀H,Zg H1 H->J.stop n H)
  (hb:∀i x H H',i<n->Zg H1 H->J.yld i H x H'->g x σ0 H' fun σ2 H2=>tt σ2 H2 λb H3=>if b=true then te σ2 H3 λv H4=>∃m',m'<n-i/\CF n P vals H1 (i+1) m' (((List.range i).filter P).map vals++[v]) H4 else ∃m',m'<n-i/\CF n P vals H1 (i+1) m' (((List.range i).filter P).map vals) H3)
  (hk:∀l H',Zg H1 H'->H' l=none->Q (.ref l) (upd H' l (.lst (((List.range n).filter P).map vals)))) :
  Zjo J g tt te σ0 Q H1:=by
 refine⟨CF n P vals H1,⟨n,rfl,Ys _,rfl,Zg.refl _⟩,?_⟩
 rintro i m acc H ⟨rfl,hi,rfl,s⟩
 have hlen:(((List.range i).filter P).map vals).length<=n:=by
  rw[Yg]
  have:=Y3 P (List.range i)
  rw[Y1]at this
  omega
 by_cases h:i<n
 ·exact .inr ⟨hgo i H s h,by omega,λx H' y=>hb i x H H' h s y⟩
 ·have:i=n:=by omega
  subst this
  exact .inl ⟨hstop H s,by omega,λp hp=>hk p H s hp⟩
theorem ZcQ.over {f:Nat->Int}{a b lo p:Nat} (h:ZcQ f a b lo) (h1:a<=p) (h2:p<=b) (hne:p≠lo):Over f lo p:=by
 obtain⟨l1,l2,l3,l4⟩:=h
 rcases Nat.lt_or_gt_of_ne hne with z|z
 ·exact .inr ⟨z,λr r1 r2=>l3 r (by omega) r2⟩
 ·exact .inl ⟨z,λr r1 r2=>l4 r r1 (by omega)⟩
theorem Zn5 {ns T:List Int}{g:Nat->Int} (hT:ZG ns T) (hg:∀q p,q<ns.length->p<ns.length->Over (nth ns) q p->(q<p->g q<=g p)/\(p<q->g q<g p)):∀p,p<ns.length->ZK g ns.length p (T.getD p 0):=by
 intro p hp
 have pv:∀q,ZV (nth ns) p q->ZV g p q:=λq h=>by
  refine⟨h.1,(hg q p (by have:=h.1;omega) hp (.inl ⟨h.1,λr r1 r2=>?_⟩)).1 h.1,λr r1 r2=>(hg p r hp (by omega) (.inr ⟨r2,λs s1 s2=>h.2.2 s (by omega) s2⟩)).2 r2⟩
  by_cases z:r=p
  ·rw[z];exact h.2.1
  ·have:=h.2.2 r r1 (by omega);have:=h.2.1;omega
 have nx:∀r,Z9 (nth ns) ns.length p r->Z9 g ns.length p r:=λq h=>by
  refine⟨h.1,h.2.1,(hg q p h.2.1 hp (.inr ⟨h.1,λr r1 r2=>?_⟩)).2 h.1,λs s1 s2=>(hg p s hp (by have:=h.2.1;omega) (.inl ⟨s1,λr r1 r2=>h.2.2.2 r r1 (by omega)⟩)).1 s1⟩
  by_cases z:r=p
  ·rw[z];exact h.2.2.1
  ·have:=h.2.2.2 r (by omega) r2;have:=h.2.2.1;omega
 have np:ZbY (nth ns) p->ZbY g p:=λh q hq=>(hg p q hp (by omega) (.inr ⟨hq,λr r1 r2=>h r r2⟩)).2 hq
 have nn:ZcA (nth ns) ns.length p->ZcA g ns.length p:=λh r r1 r2=>(hg p r hp r2 (.inl ⟨r1,λs s1 s2=>h s s1 (by omega)⟩)).1 r1
 have hE:ZK (nth ns) ns.length p (T.getD p 0):=hT.2 p hp
 rcases hE with⟨h1,h2,h⟩|⟨q,h1,h2,h⟩|⟨r,h1,h2,h⟩|⟨q,r,h1,h2,h⟩
 ·exact .inl ⟨np h1,nn h2,h⟩
 ·exact .inr (.inl ⟨q,pv q h1,nn h2,h⟩)
 ·exact .inr (.inr (.inl ⟨r,np h1,nx r h2,h⟩))
 ·refine .inr (.inr (.inr ⟨q,r,pv q h1,nx r h2,?_⟩))
  rw[h]
  have hq:q<ns.length:=by have:=h1.1;omega
  have hqr:q<r:=by have:=h1.1;have:=h2.1;omega
  by_cases z:nth ns q<=nth ns r
  ·have:=(hg q r hq h2.2.1 (.inl ⟨hqr,λs s1 s2=>by
    by_cases y:s=r
    ·rw[y];exact z
    ·by_cases y2:s=p
     ·rw[y2];exact h1.2.1
     ·have:=h1.2.1
      by_cases y3:s<p
      ·have:=h1.2.2 s s1 y3;omega
      ·have:=h2.2.2.2 s (by omega) (by omega);omega⟩)).1 hqr
   rw[Yd z,Yd (by omega)]
  ·have:=(hg r q h2.2.1 hq (.inr ⟨hqr,λs s1 s2=>by
    have:=h1.2.1;have:=h2.2.2.1
    by_cases y:s=q
    ·rw[y];omega
    ·by_cases y2:s=p
     ·rw[y2];omega
     ·by_cases y3:s<p
      ·have:=h1.2.2 s (by omega) y3;omega
      ·have:=h2.2.2.2 s (by omega) (by omega);omega⟩)).2 hqr
   rw[Yb z,Yb (by omega)]
theorem Zls {ns T:List Int} (hT:ZG ns T) {p o:Nat} (hp:p<ns.length):(o:Int)∈wayI T p↔o<ns.length/\Over (nth ns) o p:=by
 rw[<-(ZgV hT T.length p hp (by rw[hT.1];exact YN (Zn2 hp))).1 o]
 unfold wayI
 rw[YQ]
 refine⟨λ⟨q,hq,e⟩=>?_,λh=>⟨o,h,rfl⟩⟩
 have:q=o:=by omega
 rw[<-this];exact hq
theorem atI_m1 {xs:List V}{v:V} (h:0<xs.length) (hv:xs[xs.length-1]?=some v):atI xs (-1)=some v:=by
 have e:ixN xs.length (-1)=some (xs.length-1):=by
  unfold ixN
  rw[Yb (by omega),Yd (by omega)]
  congr 1
  omega
 unfold atI
 rw[e]
 exact hv
end L2
namespace HT
open PySem PyProof.Rows
section
open PySem.SeqAt
open PySem.AutoSeq1 (wpAny_loadPart')
open PySem.MeetsSeq PySem.MeetsSeq2 PySem.MeetsSeq3
variable {prog:Program}{w:World}{A:Around}{E:Value->Shared->Prop}{s:Shared}
end
end HT
namespace L2
open PySem PySem.Spec PyProof.Rows PySem.W
noncomputable def way (T:List Int) (p:Nat):List Nat:=Za8 T T.length (nth T p)
theorem ZjA (T:List Int) (p:Nat):wayI T p=(way T p).map λq=>((q:Nat):Int):=rfl
theorem ZjB {ns T:List Int} (hT:ZG ns T) {p o:Nat} (hp:p<ns.length):o∈way T p↔o<ns.length/\Over (nth ns) o p:=by
 unfold way
 rw[hT.1]
 exact(ZgV hT ns.length p hp (YN (Zn2 hp))).1 o
section
variable {X:Cx}{pins:List (Addr×Obj)}{σ:St}{H:Hp}{s:Shared}{h':Heap}
theorem Inv.ZpC {t':Nat}{fp:List Addr}{T:Addr}{o:HO} (I:Inv X pins σ H s) (k:∀b u,b∉fp->s.heap.get? b=some u->h'.get? b=some u) (hf:∀b∈fp,FpOk X pins H b) (hT:s.heap.objs.size<=T) (new:ZO X.prog X.w (upd H T o) h' T o) :
  Inv X pins σ (upd H T o) {s with heap:=h',toks:=t'}:=by
 have nit:∀b u,H b=some u->b∉fp:=λb u e z=>by rw[(hf b z).1]at e;cases e
 have hfr:H T=none:=I.hok.fresh hT
 have neT:∀b u,s.heap.get? b=some u->b≠T:=λb u e z=>absurd (Yh e) (by rw[z];exact Nat.not_lt_of_le hT)
 have neH:∀b u,H b=some u->b≠T:=λb u e z=>by rw[z,hfr]at e;cases e
 refine I.step (g':=s.gens) (d':=s.drawn) (ch:=fp) (λb hb=>?_) (λb o _ _ hc e _=>k b o hc e) (λb o _ _ hc e _=>⟨o.slots,k b o hc e⟩) (λb u _ e n=>by rw[Zj (neT b u e)];exact n)
  (λb o hc e=>⟨o,k b o hc e⟩) (λb xs e=>by rw[Zj (neH b _ e)];exact e) (λb o u e=>by rw[Zj (neH b _ e)];exact e) (λb ps e=>⟨#[],by rw[Zj (neH b _ e),e];simp⟩) (λm hm=>?_) (λb u e=>?_) I.bare
 ·obtain⟨_,f1,_,f3,f4,f5⟩:=hf b hb
  exact⟨f3,f1,f4,f5⟩
 ·obtain⟨o,es,ep,ho,r⟩:=hm
  exact⟨o,es,ep,k _ o (λz=>(hf _ z).2.1 rfl) ho,r⟩
 ·by_cases z:b=T
  ·subst z
   rw[Zc]at e;cases e
   exact new
  ·rw[Zj z]at e
   refine(I.hok b u e).Zgp (λc v hc q=>k c v ?_ q) (λc q=>?_) (λc xs q=>?_) λc o u q=>?_
   ·rcases hc with y|y
    ·rw[y];exact nit b u e
    ·exact nit c _ y
   ·rw[Zj (neH _ _ q)];exact q
   ·rw[Zj (neH _ _ q)];exact q
   ·rw[Zj (neH _ _ q)];exact q
noncomputable def Ite (K : Frag) (a : Addr) : It :=
  ⟨fun i H => ∃ xs x, SqL K H a xs ∧ xs[i]? = some x,
   fun i H v H' => ∃ p x, H p = none ∧ v = .ref p ∧ H' = upd H p (.tup [.int (i : Int), x]) ∧ ∀ xs, SqL K H a xs → xs[i]? = some x,
   fun i H => ∃ xs, SqL K H a xs ∧ xs.length = i⟩
theorem Zl1 {P:Program}{w:World}{K:Frag}{elts:List Expr} {x1}{pos:Pos}{a e it:Addr} (h1:e≠it) (h2:a≠e) (h3:a≠it) :
  Turn P w K (.Tuple elts x1 pos) (Ite K a) [e,it] e (λi h=>(∃old,IsEnum h e it (i:Int) old)/\h.IsListIter it a i) where
 mem:=by simp
 obj:=λi h st c hc=>by
  obtain⟨⟨old,q1⟩,⟨o4,q4,_,d4⟩⟩:=st
  simp at hc
  rcases hc with rfl|rfl
  ·exact⟨_,q1,λv z=>by cases z⟩
  ·exact⟨_,q4,λv z=>by rw[d4]at z;cases z⟩
 keep:=λi h h' st k=>by
  obtain⟨⟨old,q1⟩,q4⟩:=st
  exact⟨⟨old,k e (by simp) _ q1⟩,q4.at λo z=>k it (by simp) o z⟩
 item:=by
  intro X hP hw hK hc i pins s σ H E I hf st hg
  subst hP hw hK
  obtain⟨xs,x,qa,hx⟩:=hg
  obtain⟨is1,r1,p1,hz1⟩:=I.list qa
  obtain⟨u,hu,ru⟩:=r1.get hx
  have W:=WalksT.enumerate (prog:=X.prog) (w:=X.w) (I.ok.hd hc) e it a h1 h2 h3 is1.toArray
  have hi:i<is1.toArray.size:=by
   have:=(Yi.mp hu).1
   simpa using this
  refine W.item i s _ E hi ⟨st.1,st.2,p1.isList⟩ λT vals h' tk Pt hT hTup Mid keep=>⟨_,rfl,W.go elts x1 pos i T _ _ E Mid λh2' St2 keep2=>?_⟩
  obtain⟨t,y,hy,rfl⟩:=Pt
  have hyu:y=u:=by
   have:is1[i]?=some y:=by simpa using hy
   rw[hu]at this;exact(Yo this).symm
  subst hyu
  have nT:=W.apart i T h' Mid
  have hfr:H T=none:=I.hok.fresh hT
  have kk:∀b o,b∉[e,it]->s.heap.get? b=some o->h2'.get? b=some o:=λb o hb q=>keep2 b o hb (keep b o hb q)
  have nTe:∀c∈[e,it],c≠T:=λc hc z=>nT (z▸hc)
  refine⟨.ref T,_,Inv.ZpC (s:=s) (t':=tk) (o:=.tup [.int (i:Int),x]) I kk hf hT ?_,rfl,⟨T,x,hfr,rfl,rfl,λxs' q'=>?_⟩,⟨?_,St2.2.1⟩,λc hc=>?_⟩
  ·obtain⟨oT,q1,q2,n,q3⟩:=hTup
   exact⟨by show 2<=sizeLine;decide,[.int (i:Int) t,y],.cons ⟨t,rfl⟩ (.cons ru .nil),⟨oT,keep2 T oT nT q1,q2,n,q3⟩⟩
  ·rw[I.ZbQ q' qa];exact hx
  ·obtain⟨old,q⟩:=St2.1
   exact⟨old,by rw[show(((i+1:Nat)):Int)=(i:Int)+1 by omega]at *;exact q⟩
  ·rw[Zj (nTe c hc)];exact(hf c hc).1
 done:=by
  intro X hP hw hK hc i pins s σ H E I hf st hg
  subst hP hw hK
  obtain⟨xs,qa,hx⟩:=hg
  obtain⟨is1,r1,p1,_⟩:=I.list qa
  have W:=WalksT.enumerate (prog:=X.prog) (w:=X.w) (I.ok.hd hc) e it a h1 h2 h3 is1.toArray
  have hi:i=is1.toArray.size:=by
   have:=r1.length
   simp;omega
  refine W.done s _ E ?_ λh' tk keep=>⟨rfl,I.Zpx (t':=tk) (fp:=[e,it]) (λc o hc q=>keep c o hc q) hf⟩
  rw[<-hi]
  exact⟨st.1,st.2,p1.isList⟩
 self:=λA i s Q E st h=>by
  obtain⟨⟨old,q⟩,_⟩:=st
  exact wpAny_pyIter_enum q h
noncomputable def iEnum (K:Frag) (ta:TA):TI:=fun σ H R=>ta σ H λvs H1=>∃a xs,vs=[.ref a]/\SqL K H1 a xs/\R (Ite K a) H1
theorem Zkz:bootBuiltins "enumerate"=some (.type "enumerate"):=by decide +kernel
theorem Zfl {K:Frag}{elts:List Expr} {x1}{tp:Pos}{e1:Expr}{ta:TA}{p pos:Pos} (hK:X.K=K) (hg:Gl X "enumerate") (hm:X.mg "enumerate"=none) (ha:PA X [e1] ta) (hs:starEach [e1] X.env=[(false,eval e1 X.env)]:=by rfl) :
  PI X (.Tuple elts x1 tp) (.Call (.Name "enumerate" p) [e1] [] pos) (iEnum K ta):=by
 subst hK
 intro pins s σ H R I h
 refine wpAny_Call_Name_kw (Zd0 I hg hm Zkz ?_)
 refine PyProof.Rows.callWith_type1 (thn (ha pos pins s σ H _ I h) λus s1 ⟨vs,H1,I1,r1,a,xs,e1,qa,q⟩=>?_) hs rfl
 subst e1
 obtain⟨u,rfl,ru⟩:=r1.one
 cases(show u=Value.ref a from ru)
 obtain⟨is1,rr1,p1,_⟩:=I1.list qa
 refine call_enumerate_list p1.isList λh' c1 c2 c3 c4=>?_
 have l1:a<s1.heap.objs.size:=by obtain⟨o,e,_⟩:=p1.isList;exact Yh e
 have sm:∀b,s1.heap.objs.size<=b->FpOk X pins H1 b:=λb hb=>I1.fpOk hb (I1.hok.fresh hb)
 have n1:s1.heap.objs.size+1≠s1.heap.objs.size:=by show ¬ ((_:Nat)=_);omega
 have n2:a≠s1.heap.objs.size+1:=Yp (YO l1)
 have n3:a≠s1.heap.objs.size:=Yp l1
 have T:=Zl1 (P:=X.prog) (w:=X.w) (K:=X.K) (elts:=elts) (x1:=x1) (pos:=tp) n1 n2 n3
 refine T.self _ 0 _ _ _ ⟨⟨_,c1⟩,c2⟩ ?_
 refine⟨_,[s1.heap.objs.size+1,s1.heap.objs.size],_,_,H1,rfl,I1.kept (t':=s1.toks) c4,T,⟨⟨_,c1⟩,c2⟩,λc hc=>?_,q⟩
 simp at hc
 rcases hc with rfl|rfl<;>exact sm _ (by omega)
end
theorem Zl2 {prog:Program}{w:World}{A:Around}{R:Result->Shared->Prop}{I:Addr}{fp wr:List Addr}{n:Nat}{P:Nat->Value->Prop}{St:Nat->Heap->Prop} (W:Walks prog w A.in1 I fp wr n P St) (bt:Nat->Nat->Bool) (hc:CmpOf prog w A.in1 .Gt P bt)
  (S:Addr) (hS:S∉fp) (dk:Str) (d:Value) (h0:Heap) (s0:Shared)
  (hR0:n=0->∀h' tk,(∀b o,b∉wr->b≠S->h0.get? b=some o->h'.get? b=some o)->R (.ok (.ret d)) {s0 with heap:=h',toks:=tk})
  (hR:0<n->∀v h' tk,P (argBest bt (n-1)) v->(∀b o,b∉wr->b≠S->h0.get? b=some o->h'.get? b=some o)->R (.ok (.ret v)) {s0 with heap:=h',toks:=tk}) :
  ∀(k j:Nat) (h:Heap) (tk:Nat),n-j=k->j<=n->St j h->(∀b o,b∉wr->b≠S->h0.get? b=some o->h.get? b=some o) ->
   ((j=0/\∃c,h.get? S=some {cls:=.type "list",data:=.seq #[] c})\/(0<j/\∃vb c,P (argBest bt (j-1)) vb/\h.get? S=some {cls:=.type "list",data:=.seq #[vb,vb] c})) ->
   codeAny (model prog w) A (.builtin "max.loop" {pos:=[.ref I,.none,.ref S],kw:=[(dk,d)]}) R {s0 with heap:=h,toks:=tk}:=by
 intro k
 induction k with
 |zero =>
  intro j h tk hk hj hst keep hb
  refine codeAny_builtin F.entry_max_loop ?_
  have hjn:j=n:=by omega
  subst hjn
  rcases hb with⟨hj0,c,hb⟩|⟨hj0,vb,c,hvb,hb⟩
  ·show wpAny _ _ (_ >>= _) _ _ _
   refine Ya (wpAny_seqItems hb rfl ?_)
   refine Ya (wpAny_tryCatch (W.done _ _ _ hst λh' tk' kp=>?_))
   refine Ya (wpAny_rule (Yc ?_))
   exact hR0 hj0 h' tk' λb o hb1 hb2 e=>kp b o hb1 (keep b o hb1 hb2 e)
  ·show wpAny _ _ (_ >>= _) _ _ _
   refine Ya (wpAny_seqItems hb rfl ?_)
   refine Ya (wpAny_tryCatch (W.done _ _ _ hst λh' tk' kp=>?_))
   have hS':S∉wr:=λz=>hS (W.sub S z)
   have hb':=kp S _ hS' hb
   refine Ya (wpAny_updateSeq hb' rfl ?_ (show 2<=sizeLine by decide) (Ys _))
   refine Ya (wpAny_letGo (Yc ?_))
   refine hR hj0 vb _ tk' hvb λb o hb1 hb2 e=>?_
   exact(Heap.get?_update_other _ _ (Ne.symm hb2)).trans (kp b o hb1 (keep b o hb1 hb2 e))
 |succ k ih =>
  intro j h tk hk hj hst keep hb
  refine codeAny_builtin F.entry_max_loop ?_
  have hjn:j<n:=by omega
  have hS':S∉wr:=λz=>hS (W.sub S z)
  rcases hb with⟨hj0,c,hb⟩|⟨hj0,vb,c,hvb,hb⟩
  ·show wpAny _ _ (_ >>= _) _ _ _
   refine Ya (wpAny_seqItems hb rfl ?_)
   refine Ya (wpAny_tryCatch (W.item j _ _ _ hjn hst λv h' tk' hv hst' kp=>?_))
   have hb':=kp S _ hS' hb
   refine Ya (Yc ?_)
   refine Ya (wpAny_updateSeq hb' rfl ?_ (Ys _) (show 2<=sizeLine+1 by decide))
   refine Yc ⟨rfl,?_⟩
   have e9:=PySem.IsL.update hb' (λ_=>#[v,v])
   refine ih (j+1) _ tk' (by omega) (by omega) (W.frame _ _ _ hst' λb hb1 o e=>?_) (λb o hb1 hb2 e=>?_) (.inr ⟨by omega,v,_,?_,e9⟩)
   ·exact(Heap.get?_update_other _ _ (show S≠b from λz=>hS (by rw[z];exact hb1))).trans e
   ·exact(Heap.get?_update_other _ _ (Ne.symm hb2)).trans (kp b o hb1 (keep b o hb1 hb2 e))
   ·rw[hj0];rw[hj0]at hv;exact hv
  ·show wpAny _ _ (_ >>= _) _ _ _
   refine Ya (wpAny_seqItems hb rfl ?_)
   refine Ya (wpAny_tryCatch (W.item j _ _ _ hjn hst λv h' tk' hv hst' kp=>?_))
   have hb':=kp S _ hS' hb
   obtain⟨j',rfl⟩:∃j',j=j'+1:=⟨j-1,by omega⟩
   have hvb':P (argBest bt j') vb:=hvb
   have eA:argBest bt (j'+1)=if bt (j'+1) (argBest bt j')=true then j'+1 else argBest bt j':=rfl
   refine Ya (Yc ?_)
   refine Ya (wpAny_tryCatch (wpAny_holding (Ya (hc (j'+1) (argBest bt j') v vb _ _ _ hv hvb' (Ya (wpAny_holding (wpAny_truthy_bool (Ya (wpAny_letGo (Yc ?_))))))))))
   by_cases z:bt (j'+1) (argBest bt j')=true
   ·rw[Yd z]
    refine Ya (wpAny_updateSeq hb' rfl ?_ (show 2<=sizeLine by decide) (show 2<=sizeLine+1 by decide))
    refine Ya (wpAny_letGo (Yc ⟨rfl,?_⟩))
    have e9:=PySem.IsL.update hb' (λ_=>#[v,v])
    refine ih (j'+1+1) _ tk' (by omega) (by omega) (W.frame _ _ _ hst' λb hb1 o e=>?_) (λb o hb1 hb2 e=>?_) (.inr ⟨by omega,v,_,?_,e9⟩)
    ·exact(Heap.get?_update_other _ _ (show S≠b from λz=>hS (by rw[z];exact hb1))).trans e
    ·exact(Heap.get?_update_other _ _ (Ne.symm hb2)).trans (kp b o hb1 (keep b o hb1 hb2 e))
    ·show P (argBest bt (j'+1)) v
     rw[eA,Yd z];exact hv
   ·rw[Yb z]
    refine Ya (wpAny_letGo (Yc ⟨rfl,?_⟩))
    refine ih (j'+1+1) _ tk' (by omega) (by omega) hst' (λb o hb1 hb2 e=>kp b o hb1 (keep b o hb1 hb2 e)) (.inr ⟨by omega,vb,_,?_,hb'⟩)
    show P (argBest bt (j'+1)) vb
    rw[eA,Yb z];exact hvb'
theorem Zl3 (a d:Value):argsOk "max" {pos:=[a],kw:=[("default",d)]}:=by first|rfl|decide
theorem Zl4 {prog:Program}{w:World}{A:Around}{E Q:Value->Shared->Prop}{s:Shared}{l:Addr}{xs:Array (Int×Tok)}{d:Value} (hA:A.handled=none) (hl:s.heap.IsList l (intItems xs))
  (q0:xs.size=0->∀h' tk,(∀b o,s.heap.get? b=some o->h'.get? b=some o)->Q d {s with heap:=h',toks:=tk})
  (q1:0<xs.size->∀v h' tk,(intItems xs)[argBest (λi j=>decide (numAt xs i>numAt xs j)) (xs.size-1)]?=some v->(∀b o,s.heap.get? b=some o->h'.get? b=some o)->Q v {s with heap:=h',toks:=tk}) :
  wpAny (model prog w) A (call (.builtin "max") [.ref l] [("default",d)]) Q E s:=by
 refine wpAny_call (codeAny_call_builtin_code rfl ?_)
 have hck:checkBuiltinCall "max" {pos:=[.ref l],kw:=[("default",d)]}=pure ():=by
  unfold checkBuiltinCall
  rw[F.kind_max]
  exact Zl3 (.ref l) d
 rw[hck]
 refine Yc (codeAny_builtin F.entry_max ?_)
 show wpAny _ _ (_ >>= _) _ _ _
 have hbp:Builtin.Builtins.bindParams "max" ["key","default"] 0 {kw:=[("default",d)]}=pure [none,some d]:=by
  first|rfl|with_unfolding_all rfl|(simp[Builtin.Builtins.bindParams];done)
 refine Ya (wpAny_of_eq hbp (Ya (Yc (Ya (wpAny_pyIter_list hl ?_)))))
 refine Ya (wpAny_newObj_type ?_)
 refine Yc ⟨rfl,?_⟩
 have hlt:l<s.heap.objs.size:=by obtain⟨o,e,_⟩:=hl;exact Yh e
 have n1:l≠s.heap.objs.size:=Yp hlt
 have esz:(s.heap.push {cls:=.type "list_iterator",data:=.fields #[.ref l,.int 0 0]}).objs.size=s.heap.objs.size+1:=Heap.size_push _ _
 have old:∀b o,s.heap.get? b=some o->((s.heap.push {cls:=.type "list_iterator",data:=.fields #[.ref l,.int 0 0]}).push {cls:=.type "list",data:=.seq #[]}).get? b=some o:=λb o e=>Yn _ (Yn _ e)
 have ne:∀b o,s.heap.get? b=some o->b∉[s.heap.objs.size]/\b≠(s.heap.push {cls:=.type "list_iterator",data:=.fields #[.ref l,.int 0 0]}).objs.size:=λb o e=>by
  have:=Yh e
  refine⟨λz=>?_,λz=>?_⟩
  ·have:b=s.heap.objs.size:=by simpa using z
   exact absurd (Yh e) (by rw[this];exact Yu _)
  ·rw[z,esz]at this
   exact absurd this (Nat.not_lt_of_le (Nat.le_succ _))
 have W:=Walks.list (prog:=prog) (w:=w) (A:=A.in1) hA s.heap.objs.size l n1 (intItems xs)
 have hitm:(intItems xs).size=xs.size:=by simp[intItems]
 refine Zl2 W (λi j=>decide (numAt xs i>numAt xs j)) (CmpOf.ints_gt (numAt xs) λi v h=>intItems_at h) _ ?_ "default" d _ s (λz h' tk kp=>?_) (λz v h' tk hv kp=>?_) (intItems xs).size 0 _ _ rfl (Ys _) ⟨?_,?_⟩ (λb o _ _ e=>e) (.inl ⟨rfl,_,Yt _ rfl⟩)
 ·rw[esz]
  simp only[Yk,List.not_mem_nil,or_false,not_or]
  exact⟨Nat.ne_of_gt (Nat.lt_succ_self _),Nat.ne_of_gt (YO hlt)⟩
 ·exact q0 (by omega) h' tk λb o e=>kp b o (ne b o e).1 (ne b o e).2 (old b o e)
 ·exact q1 (by omega) v h' tk (by rw[<-hitm];exact hv) λb o e=>kp b o (ne b o e).1 (ne b o e).2 (old b o e)
 ·exact⟨_,Yn _ (Yt _ rfl),rfl,rfl⟩
 ·obtain⟨o,e,r⟩:=hl
  exact⟨o,old _ _ e,r⟩
theorem Zl5 {prog:Program}{w:World}{A:Around}{R:Result->Shared->Prop}{I:Addr}{fp wr:List Addr}{n:Nat}{P:Nat->Value->Prop}{St:Nat->Heap->Prop} (W:Walks prog w A.in1 I fp wr n P St) (bt:Nat->Nat->Bool) (hc:CmpOf prog w A.in1 .Lt P bt)
  (S:Addr) (hS:S∉fp) (dk:Str) (d:Value) (h0:Heap) (s0:Shared)
  (hR0:n=0->∀h' tk,(∀b o,b∉wr->b≠S->h0.get? b=some o->h'.get? b=some o)->R (.ok (.ret d)) {s0 with heap:=h',toks:=tk})
  (hR:0<n->∀v h' tk,P (argBest bt (n-1)) v->(∀b o,b∉wr->b≠S->h0.get? b=some o->h'.get? b=some o)->R (.ok (.ret v)) {s0 with heap:=h',toks:=tk}) :
  ∀(k j:Nat) (h:Heap) (tk:Nat),n-j=k->j<=n->St j h->(∀b o,b∉wr->b≠S->h0.get? b=some o->h.get? b=some o) ->
   ((j=0/\∃c,h.get? S=some {cls:=.type "list",data:=.seq #[] c})\/(0<j/\∃vb c,P (argBest bt (j-1)) vb/\h.get? S=some {cls:=.type "list",data:=.seq #[vb,vb] c})) ->
   codeAny (model prog w) A (.builtin "min.loop" {pos:=[.ref I,.none,.ref S],kw:=[(dk,d)]}) R {s0 with heap:=h,toks:=tk}:=by
 intro k
 induction k with
 |zero =>
  intro j h tk hk hj hst keep hb
  refine codeAny_builtin F.entry_min_loop ?_
  have hjn:j=n:=by omega
  subst hjn
  rcases hb with⟨hj0,c,hb⟩|⟨hj0,vb,c,hvb,hb⟩
  ·show wpAny _ _ (_ >>= _) _ _ _
   refine Ya (wpAny_seqItems hb rfl ?_)
   refine Ya (wpAny_tryCatch (W.done _ _ _ hst λh' tk' kp=>?_))
   refine Ya (wpAny_rule (Yc ?_))
   exact hR0 hj0 h' tk' λb o hb1 hb2 e=>kp b o hb1 (keep b o hb1 hb2 e)
  ·show wpAny _ _ (_ >>= _) _ _ _
   refine Ya (wpAny_seqItems hb rfl ?_)
   refine Ya (wpAny_tryCatch (W.done _ _ _ hst λh' tk' kp=>?_))
   have hS':S∉wr:=λz=>hS (W.sub S z)
   have hb':=kp S _ hS' hb
   refine Ya (wpAny_updateSeq hb' rfl ?_ (show 2<=sizeLine by decide) (Ys _))
   refine Ya (wpAny_letGo (Yc ?_))
   refine hR hj0 vb _ tk' hvb λb o hb1 hb2 e=>?_
   exact(Heap.get?_update_other _ _ (Ne.symm hb2)).trans (kp b o hb1 (keep b o hb1 hb2 e))
 |succ k ih =>
  intro j h tk hk hj hst keep hb
  refine codeAny_builtin F.entry_min_loop ?_
  have hjn:j<n:=by omega
  have hS':S∉wr:=λz=>hS (W.sub S z)
  rcases hb with⟨hj0,c,hb⟩|⟨hj0,vb,c,hvb,hb⟩
  ·show wpAny _ _ (_ >>= _) _ _ _
   refine Ya (wpAny_seqItems hb rfl ?_)
   refine Ya (wpAny_tryCatch (W.item j _ _ _ hjn hst λv h' tk' hv hst' kp=>?_))
   have hb':=kp S _ hS' hb
   refine Ya (Yc ?_)
   refine Ya (wpAny_updateSeq hb' rfl ?_ (Ys _) (show 2<=sizeLine+1 by decide))
   refine Yc ⟨rfl,?_⟩
   have e9:=PySem.IsL.update hb' (λ_=>#[v,v])
   refine ih (j+1) _ tk' (by omega) (by omega) (W.frame _ _ _ hst' λb hb1 o e=>?_) (λb o hb1 hb2 e=>?_) (.inr ⟨by omega,v,_,?_,e9⟩)
   ·exact(Heap.get?_update_other _ _ (show S≠b from λz=>hS (by rw[z];exact hb1))).trans e
   ·exact(Heap.get?_update_other _ _ (Ne.symm hb2)).trans (kp b o hb1 (keep b o hb1 hb2 e))
   ·rw[hj0];rw[hj0]at hv;exact hv
  ·show wpAny _ _ (_ >>= _) _ _ _
   refine Ya (wpAny_seqItems hb rfl ?_)
   refine Ya (wpAny_tryCatch (W.item j _ _ _ hjn hst λv h' tk' hv hst' kp=>?_))
   have hb':=kp S _ hS' hb
   obtain⟨j',rfl⟩:∃j',j=j'+1:=⟨j-1,by omega⟩
   have hvb':P (argBest bt j') vb:=hvb
   have eA:argBest bt (j'+1)=if bt (j'+1) (argBest bt j')=true then j'+1 else argBest bt j':=rfl
   refine Ya (Yc ?_)
   refine Ya (wpAny_tryCatch (wpAny_holding (Ya (hc (j'+1) (argBest bt j') v vb _ _ _ hv hvb' (Ya (wpAny_holding (wpAny_truthy_bool (Ya (wpAny_letGo (Yc ?_))))))))))
   by_cases z:bt (j'+1) (argBest bt j')=true
   ·rw[Yd z]
    refine Ya (wpAny_updateSeq hb' rfl ?_ (show 2<=sizeLine by decide) (show 2<=sizeLine+1 by decide))
    refine Ya (wpAny_letGo (Yc ⟨rfl,?_⟩))
    have e9:=PySem.IsL.update hb' (λ_=>#[v,v])
    refine ih (j'+1+1) _ tk' (by omega) (by omega) (W.frame _ _ _ hst' λb hb1 o e=>?_) (λb o hb1 hb2 e=>?_) (.inr ⟨by omega,v,_,?_,e9⟩)
    ·exact(Heap.get?_update_other _ _ (show S≠b from λz=>hS (by rw[z];exact hb1))).trans e
    ·exact(Heap.get?_update_other _ _ (Ne.symm hb2)).trans (kp b o hb1 (keep b o hb1 hb2 e))
    ·show P (argBest bt (j'+1)) v
     rw[eA,Yd z];exact hv
   ·rw[Yb z]
    refine Ya (wpAny_letGo (Yc ⟨rfl,?_⟩))
    refine ih (j'+1+1) _ tk' (by omega) (by omega) hst' (λb o hb1 hb2 e=>kp b o hb1 (keep b o hb1 hb2 e)) (.inr ⟨by omega,vb,_,?_,hb'⟩)
    show P (argBest bt (j'+1)) vb
    rw[eA,Yb z];exact hvb'
theorem Zl6 (a d:Value):argsOk "min" {pos:=[a],kw:=[("default",d)]}:=by first|rfl|decide
theorem Zl7 {prog:Program}{w:World}{A:Around}{E Q:Value->Shared->Prop}{s:Shared}{l:Addr}{xs:Array (Int×Tok)}{d:Value} (hA:A.handled=none) (hl:s.heap.IsList l (intItems xs))
  (q0:xs.size=0->∀h' tk,(∀b o,s.heap.get? b=some o->h'.get? b=some o)->Q d {s with heap:=h',toks:=tk})
  (q1:0<xs.size->∀v h' tk,(intItems xs)[argBest (λi j=>decide (numAt xs i<numAt xs j)) (xs.size-1)]?=some v->(∀b o,s.heap.get? b=some o->h'.get? b=some o)->Q v {s with heap:=h',toks:=tk}) :
  wpAny (model prog w) A (call (.builtin "min") [.ref l] [("default",d)]) Q E s:=by
 refine wpAny_call (codeAny_call_builtin_code rfl ?_)
 have hck:checkBuiltinCall "min" {pos:=[.ref l],kw:=[("default",d)]}=pure ():=by
  unfold checkBuiltinCall
  rw[F.kind_min]
  exact Zl6 (.ref l) d
 rw[hck]
 refine Yc (codeAny_builtin F.entry_min ?_)
 show wpAny _ _ (_ >>= _) _ _ _
 have hbp:Builtin.Builtins.bindParams "min" ["key","default"] 0 {kw:=[("default",d)]}=pure [none,some d]:=by
  first|rfl|with_unfolding_all rfl|(simp[Builtin.Builtins.bindParams];done)
 refine Ya (wpAny_of_eq hbp (Ya (Yc (Ya (wpAny_pyIter_list hl ?_)))))
 refine Ya (wpAny_newObj_type ?_)
 refine Yc ⟨rfl,?_⟩
 have hlt:l<s.heap.objs.size:=by obtain⟨o,e,_⟩:=hl;exact Yh e
 have n1:l≠s.heap.objs.size:=Yp hlt
 have esz:(s.heap.push {cls:=.type "list_iterator",data:=.fields #[.ref l,.int 0 0]}).objs.size=s.heap.objs.size+1:=Heap.size_push _ _
 have old:∀b o,s.heap.get? b=some o->((s.heap.push {cls:=.type "list_iterator",data:=.fields #[.ref l,.int 0 0]}).push {cls:=.type "list",data:=.seq #[]}).get? b=some o:=λb o e=>Yn _ (Yn _ e)
 have ne:∀b o,s.heap.get? b=some o->b∉[s.heap.objs.size]/\b≠(s.heap.push {cls:=.type "list_iterator",data:=.fields #[.ref l,.int 0 0]}).objs.size:=λb o e=>by
  have:=Yh e
  refine⟨λz=>?_,λz=>?_⟩
  ·have:b=s.heap.objs.size:=by simpa using z
   exact absurd (Yh e) (by rw[this];exact Yu _)
  ·rw[z,esz]at this
   exact absurd this (Nat.not_lt_of_le (Nat.le_succ _))
 have W:=Walks.list (prog:=prog) (w:=w) (A:=A.in1) hA s.heap.objs.size l n1 (intItems xs)
 have hitm:(intItems xs).size=xs.size:=by simp[intItems]
 refine Zl5 W (λi j=>decide (numAt xs i<numAt xs j)) (CmpOf.ints_lt (numAt xs) λi v h=>intItems_at h) _ ?_ "default" d _ s (λz h' tk kp=>?_) (λz v h' tk hv kp=>?_) (intItems xs).size 0 _ _ rfl (Ys _) ⟨?_,?_⟩ (λb o _ _ e=>e) (.inl ⟨rfl,_,Yt _ rfl⟩)
 ·rw[esz]
  simp only[Yk,List.not_mem_nil,or_false,not_or]
  exact⟨Nat.ne_of_gt (Nat.lt_succ_self _),Nat.ne_of_gt (YO hlt)⟩
 ·exact q0 (by omega) h' tk λb o e=>kp b o (ne b o e).1 (ne b o e).2 (old b o e)
 ·exact q1 (by omega) v h' tk (by rw[<-hitm];exact hv) λb o e=>kp b o (ne b o e).1 (ne b o e).2 (old b o e)
 ·exact⟨_,Yn _ (Yt _ rfl),rfl,rfl⟩
 ·obtain⟨o,e,r⟩:=hl
  exact⟨o,old _ _ e,r⟩
section
variable {X:Cx}
noncomputable def tMaxD (K:Frag) (ta td:TA):TE:=fun σ H Q=>ta σ H λvs H1=>td σ H1 λzs H2=>∃(p:Addr) (ns:List Int) (d:Int),vs=[.ref p]/\zs=[.int d]/\SqL K H2 p (ns.map V.int)/\(ns=[]->Q (.int d) H2)/\(ns≠[]->∀m,m∈ns->(∀a∈ns,a<=m)->Q (.int m) H2)
theorem ZpD {K:Frag}{e:Expr}{kws:List Keyword}{ta td:TA}{p pos:Pos} (hK:X.K=K) (hc:X.calm=true) (hg:Gl X "max") (hm:X.mg "max"=none) (ha:PA X [e] ta) (hd:PK X kws td)
  (he:starEach [e] X.env=(false,eval e X.env)::starEach [] X.env:=by rfl) (hpl:(backTo pos (starEach [e] X.env)).any (·.1)=false:=by rfl) (hall:(backToKw pos (keywordEach kws X.env)).all (·.1.isSome)=true:=by rfl)
  (hnn:(backToKw pos (keywordEach kws X.env)).any (·.1.isNone)=false:=by rfl) (hks:(backToKw pos (keywordEach kws X.env)).filterMap (·.1)=[(("default":String):Str)]:=by rfl) (hb:backTo pos (starEach [e] X.env)=(false,eval e X.env)::backTo pos (starEach [] X.env):=by rfl) :
  PE X (.Call (.Name "max" p) [e] kws pos) (tMaxD K ta td):=by
 subst hK
 intro pins s σ H Q I h
 refine wpAny_Call_Name_kw (Zd0 I hg hm ZnU ?_)
 refine PyProof.Rows.callWith_kw (thn (ha pos pins s σ H _ I h) λus s1 ⟨vs,H1,I1,r1,q1⟩=>?_) hb hpl hall hnn
 refine thn (hd pos pins s1 σ H1 _ I1 q1) λws s2 ⟨zs,H2,I2,r2,pp,ns,d,e1,e2,hp,q0,qm⟩=>?_
 subst e1 e2
 obtain⟨u,rfl,ru⟩:=r1.one
 obtain⟨v,rfl,rv⟩:=r2.one
 cases(show u=Value.ref pp from ru)
 rw[hks]
 obtain⟨its,rr,pl,hz⟩:=I2.list hp
 obtain⟨ys,e1,e2⟩:=ZiG rr
 have hsz:ys.size=ns.length:=by
  have:=congrArg List.length e2
  rw[Yg,YS]at this
  exact this
 refine Zl4 (xs:=ys) (I2.ok.hd hc) (e1▸pl.isList) (λz h' tk k=>?_) (λz v' h' tk hv k=>?_)
 ·exact⟨.int d,H2,I2.kept k,rv,q0 (List.length_eq_zero_iff.mp (by omega))⟩
 ·obtain⟨t,rfl⟩:=intItems_at hv
  obtain⟨h1,h2⟩:=argBest_gt (numAt ys) (ys.size-1)
  refine⟨.int _,H2,I2.kept k,⟨t,rfl⟩,qm (λy=>by have h3:ys.size=0:=(by rw[hsz,y];rfl);omega) _ ?_ λa ha=>?_⟩
  ·rw[numAt_eq,e2];exact getD_mem (by omega)
  ·obtain⟨j,hj,rfl⟩:=mem_getD ha
   rw[<-e2,<-numAt_eq];exact h2 j (by omega)
end
section
variable {X:Cx}
noncomputable def tMinD (K:Frag) (ta td:TA):TE:=fun σ H Q=>ta σ H λvs H1=>td σ H1 λzs H2=>∃(p:Addr) (ns:List Int) (d:Int),vs=[.ref p]/\zs=[.int d]/\SqL K H2 p (ns.map V.int)/\(ns=[]->Q (.int d) H2)/\(ns≠[]->∀m,m∈ns->(∀a∈ns,m<=a)->Q (.int m) H2)
theorem ZpE {K:Frag}{e:Expr}{kws:List Keyword}{ta td:TA}{p pos:Pos} (hK:X.K=K) (hc:X.calm=true) (hg:Gl X "min") (hm:X.mg "min"=none) (ha:PA X [e] ta) (hd:PK X kws td)
  (he:starEach [e] X.env=(false,eval e X.env)::starEach [] X.env:=by rfl) (hpl:(backTo pos (starEach [e] X.env)).any (·.1)=false:=by rfl) (hall:(backToKw pos (keywordEach kws X.env)).all (·.1.isSome)=true:=by rfl)
  (hnn:(backToKw pos (keywordEach kws X.env)).any (·.1.isNone)=false:=by rfl) (hks:(backToKw pos (keywordEach kws X.env)).filterMap (·.1)=[(("default":String):Str)]:=by rfl) (hb:backTo pos (starEach [e] X.env)=(false,eval e X.env)::backTo pos (starEach [] X.env):=by rfl) :
  PE X (.Call (.Name "min" p) [e] kws pos) (tMinD K ta td):=by
 subst hK
 intro pins s σ H Q I h
 refine wpAny_Call_Name_kw (Zd0 I hg hm Zkr ?_)
 refine PyProof.Rows.callWith_kw (thn (ha pos pins s σ H _ I h) λus s1 ⟨vs,H1,I1,r1,q1⟩=>?_) hb hpl hall hnn
 refine thn (hd pos pins s1 σ H1 _ I1 q1) λws s2 ⟨zs,H2,I2,r2,pp,ns,d,e1,e2,hp,q0,qm⟩=>?_
 subst e1 e2
 obtain⟨u,rfl,ru⟩:=r1.one
 obtain⟨v,rfl,rv⟩:=r2.one
 cases(show u=Value.ref pp from ru)
 rw[hks]
 obtain⟨its,rr,pl,hz⟩:=I2.list hp
 obtain⟨ys,e1,e2⟩:=ZiG rr
 have hsz:ys.size=ns.length:=by
  have:=congrArg List.length e2
  rw[Yg,YS]at this
  exact this
 refine Zl7 (xs:=ys) (I2.ok.hd hc) (e1▸pl.isList) (λz h' tk k=>?_) (λz v' h' tk hv k=>?_)
 ·exact⟨.int d,H2,I2.kept k,rv,q0 (List.length_eq_zero_iff.mp (by omega))⟩
 ·obtain⟨t,rfl⟩:=intItems_at hv
  obtain⟨h1,h2⟩:=argBest_lt (numAt ys) (ys.size-1)
  refine⟨.int _,H2,I2.kept k,⟨t,rfl⟩,qm (λy=>by have h3:ys.size=0:=(by rw[hsz,y];rfl);omega) _ ?_ λa ha=>?_⟩
  ·rw[numAt_eq,e2];exact getD_mem (by omega)
  ·obtain⟨j,hj,rfl⟩:=mem_getD ha
   rw[<-e2,<-numAt_eq];exact h2 j (by omega)
end
noncomputable def Zc2 (f g:Nat->Int) (n:Nat):Prop:=∀a c,a+c<n->Zgr f a c=Zgr g a c
theorem Zc2.over {f g:Nat->Int}{n o p:Nat} (h:Zc2 f g n) (ho:o<n) (hp:p<n) (k:Over f o p):Over g o p:=by
 rcases k with⟨z,k⟩|⟨z,k⟩
 ·have i1:ZcQ f o (o+(p-o)) o:=⟨Ye _,by omega,λq q1 q2=>by omega,λq q1 q2=>k q q1 (by omega)⟩
  have e:=h o (p-o) (by omega)
  rw[(Zcp f o (p-o)).unique i1]at e
  have i2:=Zcp g o (p-o)
  rw[<-e]at i2
  exact .inl ⟨z,λr r1 r2=>i2.2.2.2 r r1 (by omega)⟩
 ·have i1:ZcQ f p (p+(o-p)) o:=⟨by omega,by omega,λq q1 q2=>k q q1 q2,λq q1 q2=>by omega⟩
  have e:=h p (o-p) (by omega)
  rw[(Zcp f p (o-p)).unique i1]at e
  have i2:=Zcp g p (o-p)
  rw[<-e]at i2
  exact .inr ⟨z,λr r1 r2=>i2.2.2.1 r r1 (by omega)⟩
theorem Zc2.tree {ns ms T:List Int} (hT:ZG ns T) (hl:ms.length=ns.length) (h:Zc2 (nth ns) (nth ms) ns.length):ZG ms T:=by
 refine⟨by rw[hl];exact hT.1,λp hp=>?_⟩
 rw[hl]at hp⊢
 refine Zn5 hT (λq p hq hp hO=>?_) p hp
 rcases h.over hq hp hO with⟨z,k⟩|⟨z,k⟩
 ·exact⟨λ_=>k p z (Ye _),λy=>by omega⟩
 ·exact⟨λy=>by omega,λ_=>k p (Ye _) z⟩
theorem ZgW {ns ms T:List Int} (h1:ZG ns T) (h2:ZG ms T) {o p:Nat} (ho:o<ns.length) (hp:p<ns.length) (k:Over (nth ns) o p):Over (nth ms) o p:=by
 have hl:ms.length=ns.length:=h2.1.symm.trans h1.1
 exact((ZjB h2 (by omega)).mp ((ZjB h1 hp).mpr ⟨ho,k⟩)).2
theorem ZkA {ns ms T:List Int} (h1:ZG ns T) (h2:ZG ms T):Zc2 (nth ns) (nth ms) ns.length:=by
 intro a c hac
 have hl:=Zcp (nth ns) a c
 have hlt:=ZiM (nth ns) a c
 refine ZcQ.unique (f:=nth ms) (a:=a) (b:=a+c) ⟨hl.1,hl.2.1,λq q1 q2=>?_,λq q1 q2=>?_⟩ (Zcp (nth ms) a c)
 ·have:=ZgW h1 h2 (by omega) (by omega) (hl.over (p:=q) (by omega) (by omega) (by omega))
  rcases this with⟨z,k⟩|⟨z,k⟩
  ·omega
  ·exact k q (Ye _) q2
 ·have:=ZgW h1 h2 (by omega) (by omega) (hl.over (p:=q) (by omega) (by omega) (by omega))
  rcases this with⟨z,k⟩|⟨z,k⟩
  ·exact k q q1 (Ye _)
  ·omega
theorem ZiQ {ns ms S T:List Int} (h1:ZG ns S) (h2:ZG ms T):(ns.length=ms.length/\Zc2 (nth ns) (nth ms) ns.length)↔(ns.length=ms.length/\S=T):=by
 refine⟨λh=>⟨h.1,?_⟩,λh=>⟨h.1,?_⟩⟩
 ·exact(Zc2.tree h1 h.1.symm h.2).unique h2
 ·rw[h.2]at h1;exact ZkA h1 h2
noncomputable def ZdY (ns:List Int) (a c:Nat):List Int:=(ns.drop a).take c
theorem Zdl {ns:List Int}{a c:Nat} (h:a+c<=ns.length):(ZdY ns a c).length=c:=by
 unfold ZdY;rw[YJ,YT];omega
theorem ZjC {ns:List Int}{a c i:Nat} (h:i<c):nth (ZdY ns a c) i=nth ns (a+i):=by
 simp[nth,ZdY,YB,List.getElem?_take,List.getElem?_drop,h]
theorem ifR {c:TT}{t u:TS}{D:Ends}{σ:St}{H:Hp} (T U:Hp->Prop) (ht:∀H1,T H1->t D σ H1) (hu:∀H1,U H1->u D σ H1) (hc:∀B:Bool->Hp->Prop,(∀H1,T H1->B true H1)->(∀H1,U H1->B false H1)->c σ H B):tIfS c t u D σ H :=
 hc _ (λH1 h=>by rw[Yd rfl];exact ht H1 h) (λH1 h=>by rw[Yb (by simp)];exact hu H1 h)
section
variable {X:Cx}
noncomputable def rOr (r1 r2:R2):R2:=λx y H Q=>r1 x y H Q\/r2 x y H Q
theorem Zn6 {op:Value->Value->Sem Value}{r1 r2:R2} (h1:OpR X op r1) (h2:OpR X op r2):OpR X op (rOr r1 r2):=λpins s σ H x y v u Q I rx ry h=>h.elim (h1 pins s σ H x y v u Q I rx ry) (h2 pins s σ H x y v u Q I rx ry)
end
open Classical in
noncomputable def Zeb (f:Nat->Int) (p:Nat):Int:=if h:∃q,ZV f p q then (Classical.choose h:Nat)else -1
open Classical in
noncomputable def Zfm (f:Nat->Int) (n p:Nat):Int:=if h:∃r,Z9 f n p r then (Classical.choose h:Nat)else (n:Int)
theorem Zia {f:Nat->Int}{p q:Nat} (h:ZV f p q):Zeb f p=q:=by
 have hx:∃q,ZV f p q:=⟨q,h⟩
 unfold Zeb
 rw[dif_pos hx,(Classical.choose_spec hx).unique h]
theorem Zlt {f:Nat->Int}{p:Nat} (h:ZbY f p):Zeb f p=-1:=by
 unfold Zeb
 rw[dif_neg λ⟨q,hq⟩=>hq.no h]
theorem Zl8 {f:Nat->Int}{n p r:Nat} (h:Z9 f n p r):Zfm f n p=r:=by
 have hx:∃r,Z9 f n p r:=⟨r,h⟩
 unfold Zfm
 rw[dif_pos hx,(Classical.choose_spec hx).unique h]
theorem ZpF {f:Nat->Int}{n p:Nat} (h:ZcA f n p):Zfm f n p=n:=by
 unfold Zfm
 rw[dif_neg λ⟨q,hq⟩=>hq.no h]
theorem Zfn {f:Nat->Int}{n p:Nat}{e:Int} (h:ZK f n p e):(ZbY f p\/∃q,ZV f p q)/\(ZcA f n p\/∃r,Z9 f n p r):=by
 rcases h with⟨h1,h2,_⟩|⟨q,h1,h2,_⟩|⟨r,h1,h2,_⟩|⟨q,r,h1,h2,_⟩
 ·exact⟨.inl h1,.inl h2⟩
 ·exact⟨.inr ⟨q,h1⟩,.inl h2⟩
 ·exact⟨.inl h1,.inr ⟨r,h2⟩⟩
 ·exact⟨.inr ⟨q,h1⟩,.inr ⟨r,h2⟩⟩
theorem ZV.over {f:Nat->Int}{p q:Nat} (h:ZV f p q):Over f q p:=.inl ⟨h.1,λr r1 r2=>by
 by_cases z:r=p
 ·rw[z];exact h.2.1
 ·have:=h.2.2 r r1 (by omega);have:=h.2.1;omega⟩
theorem Z9.over {f:Nat->Int}{n p q:Nat} (h:Z9 f n p q):Over f q p:=.inr ⟨h.1,λr r1 r2=>by
 by_cases z:r=p
 ·rw[z];exact h.2.2.1
 ·have:=h.2.2.2 r (by omega) r2;have:=h.2.2.1;omega⟩
theorem Zn7 {ns T:List Int} (hT:ZG ns T) {p:Nat} (hp:p<ns.length):let L:=(wayI T p).filter λo=>decide (o<(p:Int))
  (L=[]->Zeb (nth ns) p=-1)/\(L≠[]->∀m,m∈L->(∀a∈L,a<=m)->m=Zeb (nth ns) p):=by
 intro L
 have hL:∀o:Nat,(o:Int)∈L↔o<p/\o<ns.length/\Over (nth ns) o p:=λo=>by
  rw[YH,Zls hT hp,decide_eq_true_eq]
  exact⟨λh=>⟨by omega,h.1⟩,λh=>⟨h.2,by omega⟩⟩
 have hN:∀m∈L,∃o:Nat,m=o:=λm hm=>by
  have:=(YH.mp hm).1
  rw[ZjA]at this
  obtain⟨o,_,e⟩:=YQ.mp this
  exact⟨o,e.symm⟩
 rcases(Zfn (hT.2 p hp)).1 with h|⟨q,h⟩
 ·refine⟨λ_=>Zlt h,λhne m hm _=>?_⟩
  obtain⟨o,rfl⟩:=hN m hm
  obtain⟨h1,_,h2⟩:=(hL o).mp hm
  have:=h o h1
  rcases h2 with⟨_,k⟩|⟨z,_⟩
  ·have:=k p h1 (Ye _);omega
  ·omega
 ·have hq:(q:Int)∈L:=(hL q).mpr ⟨h.1,by have:=h.1;omega,h.over⟩
  refine⟨λe=>by rw[e]at hq;simp at hq,λ_ m hm hmax=>?_⟩
  rw[Zia h]
  obtain⟨o,rfl⟩:=hN m hm
  obtain⟨h1,_,h2⟩:=(hL o).mp hm
  have hqo:=hmax _ hq
  by_cases z:o=q
  ·rw[z]
  ·have:=h.2.2 o (by omega) h1
   rcases h2 with⟨_,k⟩|⟨z,_⟩
   ·have:=k p h1 (Ye _);omega
   ·omega
theorem Zn8 {ns T:List Int} (hT:ZG ns T) {p:Nat} (hp:p<ns.length):let L:=(wayI T p).filter λo=>decide ((p:Int)<o)
  (L=[]->Zfm (nth ns) ns.length p=ns.length)/\(L≠[]->∀m,m∈L->(∀a∈L,m<=a)->m=Zfm (nth ns) ns.length p):=by
 intro L
 have hL:∀o:Nat,(o:Int)∈L↔p<o/\o<ns.length/\Over (nth ns) o p:=λo=>by
  rw[YH,Zls hT hp,decide_eq_true_eq]
  exact⟨λh=>⟨by omega,h.1⟩,λh=>⟨h.2,by omega⟩⟩
 have hN:∀m∈L,∃o:Nat,m=o:=λm hm=>by
  have:=(YH.mp hm).1
  rw[ZjA]at this
  obtain⟨o,_,e⟩:=YQ.mp this
  exact⟨o,e.symm⟩
 rcases(Zfn (hT.2 p hp)).2 with h|⟨q,h⟩
 ·refine⟨λ_=>ZpF h,λhne m hm _=>?_⟩
  obtain⟨o,rfl⟩:=hN m hm
  obtain⟨h1,h3,h2⟩:=(hL o).mp hm
  have:=h o h1 h3
  rcases h2 with⟨z,_⟩|⟨_,k⟩
  ·omega
  ·have:=k p (Ye _) h1;omega
 ·have hq:(q:Int)∈L:=(hL q).mpr ⟨h.1,h.2.1,h.over⟩
  refine⟨λe=>by rw[e]at hq;simp at hq,λ_ m hm hmin=>?_⟩
  rw[Zl8 h]
  obtain⟨o,rfl⟩:=hN m hm
  obtain⟨h1,h3,h2⟩:=(hL o).mp hm
  have hqo:=hmin _ hq
  by_cases z:o=q
  ·rw[z]
  ·have:=h.2.2.2 o h1 (by omega)
   rcases h2 with⟨z,_⟩|⟨_,k⟩
   ·omega
   ·have:=k p (Ye _) h1;omega
noncomputable def ZP (f:Nat->Int) (p:Nat):Int:=if 0<=Zeb f p then (p:Int)-Zeb f p else 0
noncomputable def Zcn (ns:List Int):List Int:=(List.range ns.length).map (ZP (nth ns))
theorem ZfI (ns:List Int):(Zcn ns).length=ns.length:=by simp[Zcn]
noncomputable def ZaR (H:Hp) (l:Addr) (n:Nat) (ps:Nat->Int×Int):Prop:=∃qs:List Addr,H l=some (.lst (qs.map V.ref))/\qs.length=n/\∀(j:Nat) (q:Addr),qs[j]?=some q->H q=some (.tup [.int (ps j).1,.int (ps j).2])
theorem ZaR.same {H H':Hp}{l:Addr}{n:Nat}{ps:Nat->Int×Int} (h:ZaR H l n ps) (s:Zg H H'):ZaR H' l n ps:=by
 obtain⟨qs,h1,h2,h3⟩:=h
 exact⟨qs,s _ _ h1,h2,λj q hq=>s _ _ (h3 j q hq)⟩
theorem ZaR.push {H:Hp}{l q:Addr}{n:Nat}{ps:Nat->Int×Int} (h:ZaR H l n ps) (hq:H q=some (.tup [.int (ps n).1,.int (ps n).2])):∃xs:List V,H l=some (.lst xs)/\xs.length=n/\ZaR (upd H l (.lst (xs++[.ref q]))) l (n+1) ps:=by
 obtain⟨qs,h1,h2,h3⟩:=h
 have hne:∀a o,H a=some (.tup o)->a≠l:=λa o ha z=>by rw[z,h1]at ha;cases ha
 refine⟨_,h1,by simp[h2],qs++[q],by rw[Zc];simp,by simp[h2],λj a ha=>?_⟩
 by_cases z:j<qs.length
 ·rw[YZ z]at ha
  have:=h3 j a ha
  rw[Zj (hne _ _ this)];exact this
 ·have hj:=(Yi.mp ha).1
  rw[Yy]at hj
  have:j=n:=by simp at hj;omega
  subst this
  rw[YY (by omega),h2]at ha
  simp at ha
  rw[<-ha,Zj (hne _ _ hq)];exact hq
theorem ZgX {J:It}{n:Nat}{g:TG}{tb:TS}{D:Ends}{σ:St}{H:Hp} (Pv:Nat->St->Hp->Prop) (h0:Pv 0 σ H) (hgo:∀i σ H,i<n->Pv i σ H->J.go i H) (hstop:∀σ H,Pv n σ H->J.stop n H)
  (hs:∀i x σ H H',i<n->Pv i σ H->J.yld i H x H'->g x σ H' fun σ2 H2=>tb {D with nx:=Pv (i+1),ct:=Pv (i+1),bk:=D.nx} σ2 H2) (hd:∀σ H,Pv n σ H->D.nx σ H):LoopR J g tb D σ H:=by
 refine⟨λi m σ H=>m=n-i/\i<=n/\Pv i σ H,⟨n,by simp,Ys _,h0⟩,?_⟩
 rintro i m σ H ⟨rfl,hi,p⟩
 by_cases hlt:i<n
 ·exact .inr ⟨hgo i σ H hlt p,Pv (i+1),fun σ' H' p'=>⟨n-(i+1),by omega,rfl,hlt,p'⟩,λx H' y=>hs i x σ H H' hlt p y⟩
 ·have:i=n:=by omega
  subst this
  exact .inl ⟨hstop σ H p,hd σ H p⟩
theorem Zn9 (L:List Int):L=(List.range L.length).map λi=>L.getD i 0:=by
 refine List.ext_getElem (by simp) λj h1 h2=>?_
 simp[YB,h1]
theorem Zib {K:Frag}{a:Addr}{L:List Int}{H1:Hp}{Q:VK}{tt:TT}{σr:St} (P:Int->Bool) (ha:H1 a=some (.lst (L.map V.int))) (hn:L.length<=1000)
  (ht:∀(x:Int) (H:Hp) (R:Bool->Hp->Prop),R (P x) H->tt (some (V.int x)::σr) H R)
  (hk:∀l H',Zg H1 H'->H' l=none->Q (.ref l) (upd H' l (.lst ((L.filter P).map V.int)))) :
  Zjo (Itl K a) (gName 0) tt (tVar 0) (none::σr) Q H1:=by
 refine ZeE (n:=L.length) (λi=>P (L.getD i 0)) (λi=>V.int (L.getD i 0)) (YA hn (by decide)) (λi Hx s hi=>⟨_,_,SqL.of (s _ _ ha),Yf (by simpa using hi)⟩) (λHx s=>⟨_,SqL.of (s _ _ ha),by simp⟩) ?_ ?_
 ·rintro i x Hx Hy hi s ⟨rfl,hx⟩
  have ex:=hx _ (SqL.of (s _ _ ha))
  rw[Yw,Yf hi]at ex
  cases ex
  have eg:L.getD i 0=L[i]:=by simp[YB,hi]
  refine ht _ _ _ ?_
  cases hP:P L[i]with
  |true =>
   rw[Yd rfl]
   exact⟨_,rfl,CF.take hi (by rw[eg];exact hP) (by rw[eg]) s⟩
  |false =>
   rw[Yb (by simp)]
   exact CF.skip hi (by rw[eg];exact hP) s
 ·intro l H' s hl
  have:=hk l H' s hl
  have e:((List.range L.length).filter λi=>P (L.getD i 0)).map (λi=>V.int (L.getD i 0))=(L.filter P).map V.int:=by
   conv=>rhs;rw[Zn9 L,List.filter_map,YU]
   rfl
  rw[e];exact this
noncomputable def rInD (K:Frag):R2:=λx y H Q=>∃(q p:Addr) (as:List Addr) (e:Addr->Bool),x=.ref q/\y=.ref p/\SqL K H p (as.map V.ref)/\(∀a∈as,EqD K H 3 (.ref a) x (e a))/\Q (.bl (as.any e)) H
noncomputable def eU (e:Addr->Bool):Value->Bool
 |.ref a=>e a
 |_=>false
theorem ZfJ:∀{as:List Addr}{us:List Value},Vals (as.map V.ref) us->us=as.map Value.ref
 |[],_,.nil=>rfl
 |a::as,u::us,.cons r t=>by
  have hr:u=Value.ref a:=r
  rw[hr,ZfJ t];rfl
section
variable {X:Cx}
theorem op_inD {K:Frag} (hK:X.K=K) {k:Nat} (hr:Room k X.A):OpR X (compareOp .In) (rInD K):=by
 subst hK
 have hu0:=hr.un
 intro pins s σ H x y v u Q I rx ry h
 obtain⟨q,p,as,e,rfl,rfl,hp,he,hQ⟩:=h
 cases rx
 cases ry
 obtain⟨its,r,pl,hz⟩:=I.list hp
 have hi:=ZfJ r
 subst hi
 refine SeqAt.in_listAt (eU e) pl.isList (λw hw=>?_) ⟨.bl _,H,I,rfl,?_⟩
 ·have hw':w∈as.map Value.ref:=by simpa using hw
  obtain⟨a,ha,rfl⟩:=YQ.mp hw'
  exact ZfG I (he a ha) X.A.in1 _ _ (by show X.A.units+1+3<cLine;omega) rfl rfl
 ·have:(as.map Value.ref).toArray.any (eU e)=as.any e:=by
   simp[List.any_map,Function.comp_def,eU]
  rw[this];exact hQ
end
end L2
namespace PySem
open Sem (wp)
end PySem
namespace L2
open PySem PySem.Spec PyProof.Rows PySem.W
section
variable {prog:Program}{w:World}{A:Around}{E:Value->Shared->Prop}{s:Shared}{z TI TO i1 i2 l1 l2:Addr}{k1 k2:Nat}{xs ys:Array Value}{a b:Value}
noncomputable def Zoa (h:Heap) (l:Addr):String:=match h.get? l with
 |some o=>if o.cls=.type "tuple" then "tuple_iterator" else "list_iterator"
 |none=>"list_iterator"
noncomputable abbrev zq1 (h:Heap) (l1:Addr):Heap:=h.push {cls:=.type (Zoa h l1),data:=.fields #[.ref l1,.int 0 0]}
noncomputable abbrev zq2 (h:Heap) (l1 l2:Addr):Heap:=(zq1 h l1).push {cls:=.type (Zoa (zq1 h l1) l2),data:=.fields #[.ref l2,.int 0 0]}
end
theorem cut_m1 (xs:List V):Zbx xs (some (-1)) none=xs.drop (xs.length-1):=by
 unfold Zbx HT.sIx
 cases xs with
 |nil=>simp
 |cons x r =>
  simp
  have e:(-1+((r.length:Int)+1)).toNat=r.length:=by omega
  rw[e]
  exact List.take_of_length_le (by simp)
theorem ZhC {F:Nat->Int}{n k:Nat} (h:k<n):nth ((List.range n).map F) k=F k:=by simp[nth,YB,h]
theorem Zlu {K:Frag}{Hx:Hp}{l q:Addr}{L:List Nat} (h1:Hx l=some (.lst (Zy L))) (h2:Hx q=some (.lst [])):EqD K Hx 3 (V.ref l) (V.ref q) (decide (L=[])):=by
 have hh:=ZpA (n:=2) (K:=K) (H:=Hx) Zfi (V.ref l) (V.ref q) (L.map λ(q:Nat)=>(q:Int)) [] (Zam (SqL.of (by rw[h1];simp[Zy,Function.comp_def]))) (Zam (ns:=[]) (SqL.of h2))
 have e:decide (L.map (λ(q:Nat)=>(q:Int))=[])=decide (L=[]):=by cases L<;>simp
 rw[e]at hh;exact hh
noncomputable def CDivL (i j:Int):Prop:=0<j/\j<18446744073709551616
theorem Zfo {X:Cx}:OpR X (binaryOp .FloorDiv) (rI CDivL λi j=>.int (i / j)):=opI λi j _ _ _ _ _ hc q=>by
 have h1:(0:Int)<j:=hc.1
 have h2:j<18446744073709551616:=hc.2
 refine floordiv_int (by omega) (by rw[Int.fdiv_eq_ediv_of_nonneg i (by omega)];exact q) (.inl (PyProof.noPylong_of_log2 ?_))
 have h3:j.natAbs<2 ^ 64:=by omega
 have:j.natAbs.log2<64:=(Nat.log2_lt (by omega)).mpr h3
 omega
end L2
namespace L2
theorem snoc_cases {α:Type} (xs:List α):xs=[]\/∃ys y,xs=ys++[y]:=by
 rcases List.eq_nil_or_concat xs with h|⟨ys,y,h⟩
 ·exact .inl h
 ·exact .inr ⟨ys,y,by rw[h,List.concat_eq_append]⟩
end L2
namespace L2
open PySem PySem.Spec PyProof.Rows PySem.W
theorem Zob (xs:List V) {a c:Nat} (h1:a<=c) (h2:c<=xs.length):Zbx xs (some (a:Int)) (some (c:Int))=(xs.drop a).take (c-a):=by
 unfold Zbx
 rw[HT.Zlc,HT.Zlc,Nat.min_eq_left h2,Nat.min_eq_left (Yj h1 h2)]
theorem ZjD (ns:List Int) {a c:Nat} (h1:a<=c) (h2:c<=ns.length):Zbx (ns.map V.int) (some (a:Int)) (some (c:Int))=(ZdY ns a (c-a)).map V.int:=by
 rw[Zob _ h1 (by simpa using h2)]
 unfold ZdY
 rw[List.map_take,List.map_drop]
noncomputable def sw (d:Int) (k:Nat):Int:=if d<=k then d else 0
theorem Zbe (f:Nat->Int) (p:Nat):(ZbY f p/\ZP f p=0)\/∃q,ZV f p q/\ZP f p=(p:Int)-q:=by
 rcases ZiO f p with h|⟨q,h⟩
 ·exact .inl ⟨h,by unfold ZP;rw[Zlt h,Yb (by omega)]⟩
 ·exact .inr ⟨q,h,by unfold ZP;rw[Zia h,Yd (by omega)]⟩
theorem Zdt (f:Nat->Int) (p:Nat):0<=ZP f p/\ZP f p<=p:=by
 rcases Zbe f p with⟨_,e⟩|⟨q,h,e⟩
 ·omega
 ·have:=h.1;omega
theorem ZjE {f g:Nat->Int}{x i:Nat} (h:∀k,k<=i->g k=f (x+k)):ZP g i=sw (ZP f (x+i)) i:=by
 rcases Zbe f (x+i)with⟨h1,e⟩|⟨q,h1,e⟩
 ·have:ZbY g i:=λk hk=>by rw[h k (by omega),h i (Ye _)];exact h1 (x+k) (by omega)
  rw[e]
  rcases Zbe g i with⟨_,e2⟩|⟨r,h2,_⟩
  ·rw[e2];unfold sw;rw[Yd (by omega)]
  ·exact absurd this (λz=>h2.no z)
 ·rw[e]
  obtain⟨q1,q2,q3⟩:=h1
  unfold sw
  by_cases hx:x<=q
  ·rw[Yd (by omega)]
   have:ZV g i (q-x):=⟨by omega,by rw[h _ (by omega),h i (Ye _),show x+(q-x)=q by omega];exact q2,λr r1 r2=>by rw[h r (by omega),h i (Ye _)];exact q3 (x+r) (by omega) (by omega)⟩
   rcases Zbe g i with⟨h2,_⟩|⟨r,h2,e2⟩
   ·exact(this.no h2).elim
   ·have:=h2.unique this;omega
  ·rw[Yb (by omega)]
   have:ZbY g i:=λk hk=>by rw[h k (by omega),h i (Ye _)];exact q3 (x+k) (by omega) (by omega)
   rcases Zbe g i with⟨_,e2⟩|⟨r,h2,_⟩
   ·exact e2
   ·exact(h2.no this).elim
theorem ZbT {ns:List Int}{a c i:Nat} (h:i<c):ZP (nth (ZdY ns a c)) i=sw (ZP (nth ns) (a+i)) i:=ZjE λk hk=>ZjC (by omega)
noncomputable def Zl9 (f g:Nat->Int) (m:Nat):Prop:=∀i,i<m->ZP f i=ZP g i
theorem Zma {ns:List Int}{m:Nat} (h:m<ns.length):nth (Zcn ns) m=ZP (nth ns) m:=ZhC h
theorem ZkB {bs:List Nat}{i:Nat} (h:bs.length=i+1):atI (Zy bs) (-1)=some (V.int ((bs.getD i 0:Nat):Int)):=by
 refine atI_m1 (by rw[ZE];omega) ?_
 rw[ZE,h,Nat.add_sub_cancel]
 simp[Zy,YB,h]
end L2
namespace L2
open PySem PySem.Spec PyProof.Rows PySem.W
structure FunD (K:PySem.W.Frag) (x qual:Str) (st:Stmt) (f:Addr) (fd:FuncData) (dV:Value):Prop where
 ex:∃(oc:Value) (od:Option Addr) (kV doc pm:Value) (an:Option Addr) (cdv ct:Value) (osl:Array (Option Value)),
  fd=PySem.W.fnOf x qual (defArgs st) (defBody st) (defScope st) dV kV doc pm an cdv ct/\K.lookup f=some ⟨oc,od,.func fd,osl⟩/\PySem.W.codeIn K cdv qual=true
 kp:PySem.W.keepIn K (.ref f)=true
section
variable {P:Program}{w:World}{K:PySem.W.Frag}{mg:Str->Option Value}{base:Heap}
theorem FunD.okX {x qual:Str}{st:Stmt}{f:Addr}{fd:FuncData}{dV:Value}{N ps:List Str}{k:Nat}{sp:Sp} (F:FunD K x qual st f fd dV) (S:FnScope N ps (defScope st)) (len:∀vs H Q E,sp vs H Q E->vs.length=ps.length)
  (hbody:∀(cdv:Value) (A:Around) (outer:List Env) (s:Shared) (H:Hp) (vs:List V) (Q:VK) (E:XK),Room k (A.deeper (envOfC qual (defScope st) s.heap.objs.size f cdv))->sp vs H Q E ->
   ∃t,PSs (ZeW (CXE P w) P w K mg base N qual (defScope st) f cdv A outer s H E) (defBody st) t/\t {nx:=λ_ H'=>Q .non H',rt:=Q} (start N vs) H):FnOk P w K mg base (CXE P w) (k+1) f fd ps sp:=by
 obtain⟨oc,od,kV,doc,pm,an,cdv,ct,osl,rfl,lk,hcd⟩:=F.ex
 exact ZnJ lk hcd S len λA outer s H vs Q E hr hsp=>hbody cdv A outer s H vs Q E hr hsp
theorem FunD.binds {x qual:Str}{st:Stmt}{f:Addr}{fd:FuncData}{D:Addr}{ps:List Str}{ds:List Value}{oc:Value}{od:Option Addr}{items:Array Value}{ep:Nat}{sl:Array (Option Value)} (F:FunD K x qual st f fd (.ref D))
  (lk:K.lookup D=some ⟨oc,od,.seq items ep,sl⟩)
  (h:∀(kV doc pm:Value) (an:Option Addr) (cdv ct:Value) (us:List Value),(us++ds).length=ps.length->∃k,bindArgs (PySem.W.fnOf x qual (defArgs st) (defBody st) (defScope st) (.ref D) kV doc pm an cdv ct) ⟨us,[]⟩=seqItems? (.ref D) >>= k/\k (some items)=pure (ps.zip (us++ds))):Binds K fd ps ds:=by
 obtain⟨oc,od,kV,doc,pm,an,cdv,ct,osl,rfl,lf,hcd⟩:=F.ex
 intro s us KX hl
 obtain⟨k,h1,h2⟩:=h kV doc pm an cdv ct us hl
 exact BindsTo.of_defaults rfl (KX _ _ lk) rfl h1 h2
theorem ZpG {x qual:Str}{st:Stmt}{f:Addr}{oc:Value}{od an:Option Addr}{osl:Array (Option Value)}{dV kV doc pm cdv ct:Value} (l:K.lookup f=some ⟨oc,od,.func (PySem.W.fnOf x qual (defArgs st) (defBody st) (defScope st) dV kV doc pm an cdv ct),osl⟩)
  (c:PySem.W.codeIn K cdv qual=true) (k:PySem.W.keepIn K (.ref f)=true):FunD K x qual st f (PySem.W.fnOf x qual (defArgs st) (defBody st) (defScope st) dV kV doc pm an cdv ct) dV:=⟨⟨oc,od,kV,doc,pm,an,cdv,ct,osl,rfl,l,c⟩,k⟩
end
noncomputable def ZiR (P:Program) (w:World) (K:Frag) (mg:Str->Option Value) (base:Heap) (x:Str) (k:Nat) (ps:List Str) (dvs:List V) (sp:Sp):Prop :=
 ∃f fd ds,mg x=some (.ref f)/\keepIn K (.ref f)=true/\Binds K fd ps ds/\Vals dvs ds/\FnOk P w K mg base (CXE P w) k f fd ps sp
theorem Zic {X:Cx}{x:Str}{k:Nat}{ps:List Str}{dvs:List V}{sp:Sp}{E:XK}{e:Expr}{es:List Expr}{t:TA}{p pos:Pos} (C:ZiR X.prog X.w X.K X.mg X.base x k ps dvs sp) (hr:Room k X.A) (hg:Gl X x) (hx:Passes (CXE X.prog X.w) X E)
  (ha:PA X (e::es) t) (hdb:(x==("__debug__":Str))=false:=by decide) (he:starEach (e::es) X.env=(false,eval e X.env)::starEach es X.env:=by rfl) (hpl:(backTo pos (starEach es X.env)).any (·.1)=false:=by rfl) :
  PE X (.Call (.Name x p) (e::es) [] pos) (tCall sp dvs E t):=by
 obtain⟨f,fd,ds,hm,hk,hb,hv,F⟩:=C
 exact Zla F hr hg hm hk hb hv hx ha hdb he hpl
theorem Zfp (f:Nat->Int) (a c:Nat):Zgr f a (c+1)=if sw (ZP f (a+c+1)) (c+1)=0 then a+c+1 else Zgr f a c:=by
 obtain⟨l1,l2,l3,l4⟩:=Zcp f a c
 rw[Zgr]
 generalize Zgr f a c=m at *
 rcases Zbe f (a+c+1)with⟨h,e⟩|⟨q,⟨q1,q2,q3⟩,e⟩
 ·rw[e,Yd (h m (by omega)),Yd]
  unfold sw;split<;>rfl
 ·rw[e]
  by_cases hq:a<=q
  ·have hm:f m<=f q:=by
    by_cases z:q<m
    ·have:=l3 q hq z;omega
    ·by_cases y:q=m
     ·rw[y];exact Int.le_refl _
     ·exact l4 q (by omega) (by omega)
   rw[Yb (by omega),Yb]
   unfold sw;rw[Yd (by omega)];omega
  ·rw[Yd (q3 m (by omega) (by omega)),Yd]
   unfold sw;rw[Yb (by omega)]
theorem Zl9.lows {f g:Nat->Int}{n:Nat} (h:Zl9 f g n):Zc2 f g n:=by
 intro a c
 induction c with
 |zero=>intro _;rfl
 |succ c ih=>intro k;rw[Zfp,Zfp,ih (by omega),h (a+c+1) (by omega)]
theorem Zc2.kinD {f g:Nat->Int}{n:Nat} (h:Zc2 f g n):Zl9 f g n:=by
 intro i hi
 have key:∀k,0<k->k<=i->(sw (ZP f i) k=0↔sw (ZP g i) k=0):=λk k0 k1=>by
  have e:=h (i-k) (k-1+1) (by omega)
  rw[Zfp,Zfp]at e
  rw[show i-k+(k-1)+1=i by omega,show k-1+1=k by omega]at e
  have b1:=(ZiM f (i-k) (k-1)).2
  have b2:=(ZiM g (i-k) (k-1)).2
  by_cases z:sw (ZP f i) k=0
  ·rw[Yd z]at e
   by_cases y:sw (ZP g i) k=0
   ·exact⟨λ_=>y,λ_=>z⟩
   ·rw[Yb y]at e;omega
  ·rw[Yb z]at e
   by_cases y:sw (ZP g i) k=0
   ·rw[Yd y]at e;omega
   ·exact⟨λw=>absurd w z,λw=>absurd w y⟩
 have b1:=Zdt f i
 have b2:=Zdt g i
 generalize ZP f i=d at *
 generalize ZP g i=d' at *
 apply Classical.byContradiction
 intro ne
 have main:∀x y:Int,0<=x->x<=i->0<=y->y<=i->(∀k:Nat,0<k->k<=i->(sw x k=0↔sw y k=0))->¬ x<y:=λx y x0 x1 y0 y1 kk hlt=>by
  by_cases hx:x=0
  ·have:=(kk y.toNat (by omega) (by omega)).mp (by rw[hx];unfold sw;split<;>rfl)
   unfold sw at this
   rw[Yd (by omega)]at this;omega
  ·have:=(kk x.toNat (by omega) (by omega)).mpr (by unfold sw;rw[Yb (by omega)])
   unfold sw at this
   rw[Yd (by omega)]at this;omega
 by_cases hlt:d<d'
 ·exact main d d' b1.1 b1.2 b2.1 b2.2 key hlt
 ·exact main d' d b2.1 b2.2 b1.1 b1.2 (λk h1 h2=>(key k h1 h2).symm) (by omega)
noncomputable def Once (k:Nat) (ss ls:List Int):Prop:=ss=((List.range k).map λ(j:Nat)=>(j:Int)).filter (λj=>decide (j∉ls))/\ls=((List.range k).map λ(j:Nat)=>(j:Int)).filter (λj=>decide (j∈ls))
noncomputable instance (k:Nat) (ss ls:List Int):Decidable (Once k ss ls):=inferInstanceAs (Decidable (_/\_))
theorem Zmb {K:Frag}{H:Hp}{n:Nat}{a c:Addr}{xs:List V} (h1:H a=some (.lst xs)) (h2:H c=some (.lst [])):EqD K H (n+1) (.ref a) (.ref c) (decide (xs=[])):=by
 cases xs with
 |nil =>
  have:=EqD.lst (K:=K) (H:=H) (n:=n) (λ_=>true) (SqL.of h1) (SqL.of h2) rfl λj x y e1 e2=>by simp at e1
  simpa using this
 |cons x xs =>
  have:=EqD.len (K:=K) (H:=H) (n:=n) (SqL.of h1) (SqL.of h2) (by simp)
  simpa using this
theorem ZgY {ns ms T:List Int} (h1:ZG ns T) (h2:ZG ms T):Zl9 (nth ns) (nth ms) ns.length:=by
 have e:ns.length=ms.length:=h1.1.symm.trans h2.1
 exact((ZiQ h1 h2).mpr ⟨e,rfl⟩).2.kinD
section
variable {N:Nat}{k:Nat->Int}{cmp:Nat->Nat->(Bool->Shared->Prop)->Shared->Prop}{s:Shared}{p:Array Nat}
noncomputable def kk (k:Nat->Int) (p:Array Nat) (i:Nat):Int:=k (p.getD i 0)
end
theorem ZgZ (l:List Nat) (y:Nat):atI (Zy (l++[y])) (-1)=some (V.int (y:Nat)):=by
 have:=ZkB (bs:=l++[y]) (i:=l.length) (by simp)
 rw[this];simp[YB]
end L2
namespace L2
open PySem PySem.Spec PyProof.Rows PySem.W
end L2
namespace L2
noncomputable def Ok:Nat->List Nat->Prop
 |_,[]=>True
 |st,d::ds=>d<=st/\Ok (st-d+1) ds
end L2
namespace L2
open PySem PySem.Spec PyProof.Rows PySem.W
end L2
namespace L2
open PySem PySem.Spec PyProof.Rows PySem.W
end L2
namespace L2
open PySem PySem.Spec PyProof.Rows
section
variable {κ:Type} [DecidableEq κ]
noncomputable def Zbz (kvs:List (κ×V)) (k:κ):Option V:=(kvs.find? λkv=>decide (kv.1=k)).map (·.2)
noncomputable def putK (kvs:List (κ×V)) (k:κ) (v:V):List (κ×V) :=
 if (kvs.any λkv=>decide (kv.1=k))=true then kvs.map (λkv=>if kv.1=k then (kv.1,v)else kv)else kvs++[(k,v)]
theorem ZbU {p:κ×V}{r:List (κ×V)}{k:κ} (e:p.1=k):Zbz (p::r) k=some p.2:=by simp[Zbz,List.find?_cons,e]
theorem ZbV {p:κ×V}{r:List (κ×V)}{k:κ} (e:¬ p.1=k):Zbz (p::r) k=Zbz r k:=by simp[Zbz,List.find?_cons,e]
theorem Zfq (k:κ):∀kvs:List (κ×V),(kvs.any λkv=>decide (kv.1=k))=(Zbz kvs k).isSome
 |[]=>rfl
 |p::r=>by
  rw[List.any_cons]
  by_cases e:p.1=k
  ·simp only[ZbU e,YF e,Bool.true_or,Option.isSome_some]
  ·rw[ZbV e,YE e,Bool.false_or];exact Zfq k r
theorem Zid (k j:κ) (y:V):∀kvs:List (κ×V),Zbz kvs k=none->Zbz (kvs++[(k,y)]) j=if j=k then some y else Zbz kvs j
 |[],_=>by
  by_cases e:k=j
  ·rw[Yd e.symm];exact ZbU (p:=(k,y)) e
  ·rw[Yb (λz=>e z.symm)];exact ZbV (p:=(k,y)) e
 |p::r,hn=>by
  rw[List.cons_append]
  have hk:¬ p.1=k:=λz=>by rw[ZbU z]at hn;cases hn
  rw[ZbV hk]at hn
  have ih:=Zid k j y r hn
  by_cases e:p.1=j
  ·rw[ZbU e,ZbU e,Yb (λz=>hk (e.trans z))]
  ·rw[ZbV e,ZbV e,ih]
theorem ZjF (kvs:List (κ×V)) (k:κ) (v:V):(putK kvs k v).length<=kvs.length+1:=by
 unfold putK
 split
 ·rw[Yg];omega
 ·rw[Yy,YK,List.length_nil];omega
theorem Zoc {kvs:List (κ×V)}{k:κ} (v:V) (h:Zbz kvs k=none):putK kvs k v=kvs++[(k,v)]:=by
 unfold putK
 rw[Zfq,h]
 exact Yb (by decide)
theorem ZgK.ZfK {o:Option V}{u:Option Value} (r:ZgK o u):o.isSome=u.isSome:=by
 cases o with
 |none=>cases u with
  |none=>rfl
  |some _=>exact(show False from r).elim
 |some _=>cases u with
  |none=>exact(show False from r).elim
  |some _=>rfl
theorem KV.val {kvs:List (κ×V)}{vs:List (κ×Value)} (r:KV kvs vs) (k:κ):ZgK (Zbz kvs k) (valueAt vs k):=by
 unfold KV at r
 induction r with
 |nil=>exact True.intro
 |@cons p q ps qs h t ih =>
  obtain⟨h1,h2⟩:=h
  by_cases e:p.1=k
  ·have e':q.1=k:=h1.symm.trans e
   have b:valueAt (q::qs) k=some q.2:=by simp[valueAt,List.find?_cons,e']
   rw[ZbU e,b];exact h2
  ·have e':¬ q.1=k:=λz=>e (h1.trans z)
   have b:valueAt (q::qs) k=valueAt qs k:=by simp[valueAt,List.find?_cons,e']
   rw[ZbV e,b];exact ih
end
theorem Zod {P:Program}{w:World}{k:Key}{u:Value} (r:RelV (kV k) u):(ZaQ P w).is k u=true:=by
 cases k with
 |inl i=>obtain⟨t,e⟩:=(show ∃t,u=Value.int i t from r);subst e;exact Zjb P w i t
 |inr x=>obtain⟨t,e⟩:=(show ∃t,u=Value.str x t from r);subst e;exact Zjc P w x t
theorem Zie {P:Program}{w:World}:∀{ks:List Key}{us:List Value},Vals (ks.map kV) us->ItemsAre (ZaQ P w) ks us
 |[],_,r=>by rw[List.map_nil]at r;cases r;exact .nil
 |k::ks,_,r=>by
  rw[YC]at r
  cases r with
  |cons h t=>exact .cons (Zod h) (Zie t)
noncomputable abbrev KT (H:Hp):List (List Key×V)->List (List Key×Addr×Value)->Prop:=Paired λp q=>p.1=q.1/\H q.2.1=some (.tup (p.1.map kV))/\RelV p.2 q.2.2
theorem KT.val {H:Hp}{kvs:List (List Key×V)}{xs:List (List Key×Addr×Value)} (r:KT H kvs xs) (k:List Key):ZgK (Zbz kvs k) ((atKey xs k).map (·.2)):=by
 induction r with
 |nil=>exact True.intro
 |@cons p q ps qs h t ih =>
  obtain⟨h1,_,h2⟩:=h
  by_cases e:p.1=k
  ·have e':q.1=k:=h1.symm.trans e
   have b:atKey (q::qs) k=some q.2:=by simp[atKey,List.find?_cons,e']
   rw[ZbU e,b];exact h2
  ·have e':¬ q.1=k:=λz=>e (h1.trans z)
   have b:atKey (q::qs) k=atKey qs k:=by simp[atKey,List.find?_cons,e']
   rw[ZbV e,b];exact ih
theorem KT.repl {H:Hp}{kvs:List (List Key×V)}{xs:List (List Key×Addr×Value)} (r:KT H kvs xs) (k:List Key) {y:V}{u:Value} (ry:RelV y u) :
  KT H (kvs.map λkv=>if kv.1=k then (kv.1,y)else kv) (xs.map (putAt k u)):=by
 induction r with
 |nil=>exact .nil
 |@cons p q ps qs h t ih =>
  rw[YC,YC]
  refine .cons ?_ ih
  obtain⟨h1,h2,h3⟩:=h
  unfold putAt
  by_cases e:p.1=k
  ·rw[Yd e,Yd (h1.symm.trans e)];exact⟨h1,h2,ry⟩
  ·rw[Yb e,Yb (λz=>e (h1.trans z))];exact⟨h1,h2,h3⟩
theorem KT.put {H:Hp}{kvs:List (List Key×V)}{xs:List (List Key×Addr×Value)} (r:KT H kvs xs) (k:List Key) {b:Addr}{y:V}{u:Value} (hb:H b=some (.tup (k.map kV))) (ry:RelV y u) :
  KT H (putK kvs k y) (storedH xs k b u):=by
 have e:(kvs.any λkv=>decide (kv.1=k))=(atKey xs k).isSome:=by
  rw[Zfq,(r.val k).ZfK,Option.isSome_map]
 unfold putK storedH
 rw[e]
 by_cases q:(atKey xs k).isSome=true
 ·rw[Yd q,Yd q];exact r.repl k ry
 ·rw[Yb q,Yb q];exact Paired.snoc r ⟨rfl,hb,ry⟩
theorem KT.keeps {H H':Hp}{kvs:List (List Key×V)}{xs:List (List Key×Addr×Value)} (r:KT H kvs xs) (ht:∀b ys,H b=some (.tup ys)->H' b=some (.tup ys)):KT H' kvs xs :=
 Paired.mapP r λ_ _ z=>⟨z.1,ht _ _ z.2.1,z.2.2⟩
section
variable {P:Program}{w:World}{H:Hp}{h:Heap}{a:Addr}
theorem rd_of {u:HO} (ok:HOk P w H h) (e:Rd H a u):ZO P w H h a u:=e.ok ok
theorem Zlv {kvs:List (Key×V)} (ok:HOk P w H h) (e:Rd H a (.dK kvs)):kvs.length<=sizeLine/\(a==sysModules)=false/\∃vs,KV kvs vs/\h.DictOf (ZaQ P w) a vs :=
 show ZO P w H h a (.dK kvs)from rd_of ok e
theorem ZiS {ks:List Key} (ok:HOk P w H h) (e:H a=some (.tup (ks.map kV))):(tupleKind (ZaQ P w)).is h ks a:=by
 obtain⟨_,its,r,o,h1,h2,n,h3⟩:=(show ZO P w H h a (.tup (ks.map kV))from ok a _ e)
 exact⟨o,its.toArray,n,h1,h2,h3,by simpa using Zie r⟩
theorem ZjG {kvs:List (List Key×V)} (ok:HOk P w H h) (e:Rd H a (.dT kvs)):kvs.length<=sizeLine/\(a==sysModules)=false /\
  ∃xs,KT H kvs xs/\h.DictOfH (tupleKind (ZaQ P w)) a xs:=by
 obtain⟨z,y,xs,r,o,es,ep,h1,h2,h3,h4,h5⟩:=(show ZO P w H h a (.dT kvs)from rd_of ok e)
 refine⟨z,y,xs,r,o,es,ep,h1,h2,h3,h4,λx hx=>?_,h5⟩
 have all:∀{l:List (List Key×V)}{m:List (List Key×Addr×Value)},KT H l m->∀x∈m,(tupleKind (ZaQ P w)).is h x.1 x.2.1:=by
  intro l m q
  induction q with
  |nil=>intro x hx;exact nomatch hx
  |@cons p q ps qs hq t ih =>
   intro x hx
   rcases Yk.mp hx with e|hx
   ·subst e
    exact ZiS ok (by rw[<-hq.1];exact hq.2.1)
   ·exact ih x hx
 exact all r x hx
theorem dt_of {kvs:List (List Key×V)} (ok:HOk P w H h) (e:H a=some (.dT kvs)):kvs.length<=sizeLine/\(a==sysModules)=false /\
  ∃xs,KT H kvs xs/\h.DictOfH (tupleKind (ZaQ P w)) a xs:=ZjG ok (.inl e)
end
noncomputable def ZhD (H:Hp) (a:Addr) (y:V) (r:Option V):Prop :=
 (∃kvs k,Rd H a (.dK kvs)/\y=kV k/\r=Zbz kvs k)\/∃kvs k b,Rd H a (.dT kvs)/\y=.ref b/\H b=some (.tup (k.map kV))/\r=Zbz kvs k
theorem ZhD.t {H:Hp}{a b:Addr}{kvs:List (List Key×V)}{k:List Key} (e:H a=some (.dT kvs)) (eb:H b=some (.tup (k.map kV))):ZhD H a (.ref b) (Zbz kvs k):=.inr ⟨kvs,k,b,.inl e,rfl,eb,rfl⟩
section
variable {X:Cx}{pins:List (Addr×Obj)}{σ:St}{H:Hp}{s:Shared}{a:Addr}{y v:V}{u r:Value}{o:Option V}{A:Around}{E:Value->Shared->Prop}
theorem Inv.big (I:Inv X pins σ H s):sysModules<s.heap.objs.size:=by
 have h:mainGlobals<s.heap.objs.size:=(I.mod.glob.keeps I.bk).lt
 exact Nat.lt_trans (by decide) h
theorem Zmc {Q:Value->Shared->Prop} (hu:A.units+1<cLine) (I:Inv X pins σ H s) (g:ZhD H a y (some v)) (ry:RelV y u) (h:∀w' s',Inv X pins σ H s'->RelV v w'->Q w' s') :
  wpAny (model X.prog X.w) A (getItem (.ref a) u) Q E s:=by
 rcases g with⟨kvs,k,e,ey,l⟩|⟨kvs,k,b,e,ey,eb,l⟩
 ·subst ey
  obtain⟨z,hd,vs,rel,dd⟩:=Zlv I.hok e
  obtain⟨w',hw,rw'⟩:=ZgK.some_of (v:=v) (o:=valueAt vs k) (by rw[l];exact rel.val k)
  exact wpAny_getItem_of (Zod ry) dd.mapOf hw (h w' _ (I.tok _) rw')
 ·subst ey
  cases(show u=Value.ref b from ry)
  obtain⟨z,hd,xs,rel,dd⟩:=ZjG I.hok e
  obtain⟨w',hw,rw'⟩:=ZgK.some_of (v:=v) (o:=(atKey xs k).map (·.2)) (by rw[l];exact rel.val k)
  obtain⟨p,hp,hp2⟩:=Option.map_eq_some_iff.mp hw
  refine wpAny_getItem_heap (tupleKind_room_in1 hu) (ZiS I.hok eb) dd hp ?_
  rw[hp2]
  exact h w' _ (I.tok _) rw'
theorem d_in {Q:Value->Shared->Prop} (hu:A.units+1<cLine) (I:Inv X pins σ H s) (g:ZhD H a y o) (ry:RelV y u) (h:∀s',Inv X pins σ H s'->Q (.bool o.isSome) s') :
  wpAny (model X.prog X.w) A (compareOp .In u (.ref a)) Q E s:=by
 rcases g with⟨kvs,k,e,ey,l⟩|⟨kvs,k,b,e,ey,eb,l⟩
 ·subst ey
  obtain⟨z,hd,vs,rel,dd⟩:=Zlv I.hok e
  refine wpAny_in_of (Zod ry) hd dd.mapOf ?_
  rw[<-(rel.val k).ZfK,<-l]
  exact h _ (I.tok _)
 ·subst ey
  cases(show u=Value.ref b from ry)
  obtain⟨z,hd,xs,rel,dd⟩:=ZjG I.hok e
  refine wpAny_in_heap (tupleKind_room_in1 hu) (ZiS I.hok eb) hd dd ?_
  have q:=(rel.val k).ZfK
  rw[Option.isSome_map]at q
  rw[<-q,<-l]
  exact h _ (I.tok _)
theorem ZpH {h':Heap}{t':Nat}{ob:HO} (I:Inv X pins σ H s) (mu:Mut (H a)) (hs:Heap.SameBut a s.heap h') (he:∃q,h'.get? a=some q) (new:ZO X.prog X.w (upd H a ob) h' a ob) :
  Inv X pins σ (upd H a ob) {s with heap:=h',toks:=t'} :=
 I.write (x:=a) (e:=a) mu (.inl rfl) (λb q hb z=>(hs.2 b hb).trans z) he new
end
noncomputable def NoSl (i:Expr):Prop:=∀ov iv,subscripted i false ov iv=operate [ov,iv] (getItem ov iv)
theorem ZpI {prog:Program}{w:World}{A:Around}{E:Value->Shared->Prop}{s:Shared}{env:Env}{value slice:Expr}{pos:Pos}{T id:String}{Q:Value->Shared->Prop}
  (hl:typeLookup (.type T) "__getitem__"=pure (some (.builtin id))) (hs:NoSl slice)
  (h:wpAny (model prog w) A (eval value env) (λo s₁=>wpAny (model prog w) A (eval slice env) (λi s₂=>s₂.TypeIs o T/\wpAny (model prog w) A (getItem o i) Q E s₂) E s₁) E s) :
  wpAny (model prog w) A (eval (.Subscript value slice pos) env) Q E s:=by
 refine Subscript_ (YG h (λo s₁ h₁=>YG h₁ (λi s₂ h₂=>?_) λ_ _ x=>x) λ_ _ x=>x)
 obtain⟨hT,h₂⟩:=h₂
 unfold subscriptTail
 refine Ya ?_
 rw[getitemInPython_of_ne hT.not_modules]
 refine Ya (wpAny_specialOf hT hl ?_)
 have fin:wpAny (model prog w) A (subscripted slice false o i) (λr s₃=>wpAny (model prog w) A (letTemporaryGo value o r >>= λ_=>pure r) Q E s₃) E s₂:=by
  rw[hs o i]
  exact wpAny_operating (YG h₂ (λr s₃ h₃=>Ya (wpAny_letTemporaryGo (Yc h₃))) λ_ _ x=>x)
 first
  |exact Yc (Ya fin)
  |exact Ya (Yc (Ya fin))
  |exact Ya fin
theorem ZjH {X:Cx}{pins:List (Addr×Obj)}{σ:St}{H:Hp}{s:Shared}{a:Addr}{y:V}{o:Option V} (I:Inv X pins σ H s) (g:ZhD H a y o):s.TypeIs (.ref a) "dict":=by
 rcases g with⟨kvs,k,e,_,_⟩|⟨kvs,k,b,e,_,_,_⟩
 ·obtain⟨_,_,vs,_,dd⟩:=Zlv I.hok e
  exact dd.typeIs
 ·obtain⟨_,_,xs,_,dd⟩:=ZjG I.hok e
  exact dd.typeIs
noncomputable def tDGet (td ty:TE):TE:=fun σ H Q=>td σ H λx H1=>ty σ H1 λy H2=>∃a v,x=.ref a/\ZhD H2 a y (some v)/\Q v H2
noncomputable def tDIn (ty td:TE):TE:=fun σ H Q=>ty σ H λy H1=>td σ H1 λx H2=>∃a o,x=.ref a/\ZhD H2 a y o/\Q (.bl o.isSome) H2
section
variable {X:Cx}{o i e value:Expr}{pos pos' tpos:Pos}{td ty tv:TE}
theorem Zlw (hu:X.A.units+1<cLine) (ho:PE X o td) (hi:PE X i ty) (hs:NoSl i):PE X (.Subscript o i pos) (tDGet td ty):=by
 intro pins s σ H Q I h
 refine ZpI PySem.F.slot_dict_getitem.lookup hs (thn (ho pins s σ H _ I h) λu s1 ⟨x,H1,I1,rx,q1⟩=>thn (hi pins s1 σ H1 _ I1 q1) λiv s2 ⟨y,H2,I2,ry,a,v,ex,g,q2⟩=>?_)
 subst ex
 obtain rfl:u=Value.ref a:=rx
 exact⟨ZjH I2 g,Zmc hu I2 g ry λw' s3 I3 rw'=>⟨v,H2,I3,rw',q2⟩⟩
theorem pc_din (hu:X.A.units+1<cLine) (hi:PE X i ty) (ho:PE X o td):PC X .In i o (tDIn ty td):=by
 intro pins s σ H Q I h
 refine thn (hi pins s σ H _ I h) λiv s1 ⟨y,H1,I1,ry,q1⟩=>thn (ho pins s1 σ H1 _ I1 q1) λu s2 ⟨x,H2,I2,rx,a,ov,ex,g,q2⟩=>?_
 subst ex
 obtain rfl:u=Value.ref a:=rx
 exact d_in hu I2 g ry λs3 I3=>⟨.bl ov.isSome,H2,I3,rfl,q2⟩
end
theorem Zoe {P:Program}{w:World}{H:Hp} (h:Heap) (hb:sysModules<h.objs.size):ZO P w H (h.push {cls:=.type "dict",data:=.dict #[]}) h.objs.size (.dT []) :=
 ⟨Ys _,beq_eq_false_iff_ne.mpr (Ne.symm (Yp hb)),[],.nil,_,#[],0,Yt _ rfl,⟨rfl,rfl,rfl⟩,rfl,rfl,List.nodup_nil⟩
noncomputable def tDNewT:TE:=λ_ H Q=>∀p,H p=none->Q (.ref p) (upd H p (.dT []))
section
variable {X:Cx}{pos:Pos}
theorem ZjI:PE X (.Dict [] [] pos) tDNewT:=λpins s σ H Q I h =>
 wpAny_Dict_empty ⟨.ref s.heap.objs.size,_,I.laid (a:=s.heap.objs.size) (o:=.dT []) (t':=s.toks) (λ_ _ q=>Yn _ q) (Ye _) (Zoe s.heap I.big),rfl,h _ (I.hok.fresh (Ye _))⟩
end
structure M2 (X:Cx) (o:Expr) (m:Str) (apos:Pos) (e f:Expr) (cpos:Pos):Prop where
 base:attributeBase o m X.env (eval o X.env)=eval o X.env
 few:((backTo cpos (starEach [e,f] X.env)).all (λx=>!x.1)&&(backToKw cpos (keywordEach [] X.env)).all (λx=>x.1.isSome)
  && decide (([e,f]:List Expr).length+([]:List Keyword).length+(if ([]:List Keyword).isEmpty then 0 else 1)<30))=true
 line:(apos.endLine==cpos.line)=true
 trees:backTo cpos (starEach [e,f] X.env)=[(false,eval e X.env),(false,eval f X.env)]
noncomputable def IsD (H:Hp) (a:Addr):Prop:=(∃kvs,Rd H a (.dK kvs))\/∃kvs,Rd H a (.dT kvs)
theorem Zof {X:Cx}{pins:List (Addr×Obj)}{σ:St}{H:Hp}{s:Shared}{a:Addr} (I:Inv X pins σ H s) (d:IsD H a) :
  s.TypeIs (.ref a) "dict"/\(∀b,Value.ref a=.ref b->∃ob,s.heap.get? b=some ob/\ob.dict=none)/\(a==sysModules)=false:=by
 rcases d with⟨kvs,e⟩|⟨kvs,e⟩
 ·obtain⟨_,hd,vs,_,dd⟩:=Zlv I.hok e
  refine⟨dd.typeIs,λb q=>?_,hd⟩
  cases q
  obtain⟨ob,_,_,h1,h2,_⟩:=dd
  exact⟨ob,h1,h2.2.1⟩
 ·obtain⟨_,hd,xs,_,dd⟩:=ZjG I.hok e
  refine⟨dd.typeIs,λb q=>?_,hd⟩
  cases q
  obtain⟨ob,_,_,h1,h2,_⟩:=dd
  exact⟨ob,h1,h2.2.1⟩
section
variable {κ:Type} [DecidableEq κ]
theorem ZjJ {kvs:List (κ×V)}{k:κ} (h:Zbz kvs k=none):¬ k∈kvs.map (·.1):=by
 intro m
 obtain⟨p,hp,e⟩:=YQ.mp m
 have q:(kvs.any λkv=>decide (kv.1=k))=true:=List.any_eq_true.mpr ⟨p,hp,YF e⟩
 rw[Zfq,h]at q
 exact absurd q (by simp)
theorem Zlx:∀{l:List κ}{k:κ},l.Nodup->¬ k∈l->(l++[k]).Nodup
 |[],k,_,_=>by simp
 |a::r,k,h,hk=>by
  obtain⟨h1,h2⟩:=List.nodup_cons.mp h
  show(a::(r++[k])).Nodup
  refine List.nodup_cons.mpr ⟨λm=>?_,Zlx h2 λm=>hk (Yk.mpr (Or.inr m))⟩
  rcases Yz.mp m with q|q
  ·exact h1 q
  ·exact hk (Yk.mpr (Or.inl (Y0.mp q).symm))
end
end L2
namespace L2
open PySem PySem.Spec PyProof.Rows PySem.W PySem.Calls
end L2
namespace L2
open PySem PySem.Spec PyProof.Rows PySem.W
theorem ZpJ {M:Program}{w:World}{A:Around}{E:Value->Shared->Prop}{s:Shared}{t b:Addr}{vs ws:List Value}{Q:Value->Shared->Prop} (ht:IsTup s.heap t vs.toArray) (hb:IsTup s.heap b ws.toArray) (hv:vs=[]) (h:Q (.ref b) s):wpAny (model M w) A (binaryOp .Add (.ref t) (.ref b)) Q E s:=by
 obtain⟨⟨k1,d1,x1,l1⟩,e1,c1,n1,y1⟩:=id ht
 obtain⟨⟨k2,d2,x2,l2⟩,e2,c2,n2,y2⟩:=id hb
 simp only at c1 y1 c2 y2
 subst c1 y1 c2 y2
 exact concat_meets ⟨_,e1,rfl⟩ ⟨_,e2,rfl⟩ noFill_tuple_add seq_tuple_add PySem.F.slot_tuple_add PySem.F.entry_tuple_add (PySem.F.args_tuple_add_2 _ _) (tuple_addW0 t b vs.toArray ws.toArray n1 n2 d1 d2 l1 l2 (by simp[hv])) ⟨e1,e2,h⟩
section
variable {X:Cx}
noncomputable def rCatU:R2:=λx y H Q=>∃(a b:Addr) (xs ys:List V),x=.ref a/\y=.ref b/\H a=some (.tup xs)/\H b=some (.tup ys)/\xs.length+ys.length<=sizeLine/\∀(p:Addr) H',Zg H H'->H' p=some (.tup (xs++ys))->Q (.ref p) H'
theorem ZpK:OpR X (binaryOp .Add) rCatU:=by
 intro pins s σ H x y v u Q I rx ry h
 obtain⟨a,b,xs,ys,rfl,rfl,ha,hb,hz,q⟩:=h
 cases rx
 cases ry
 obtain⟨its,r1,p1,_⟩:=I.tuple (SqT.of ha)
 obtain⟨its2,r2,p2,_⟩:=I.tuple (SqT.of hb)
 by_cases hx:xs=[]
 ·exact ZpJ p1 p2 (r1.Zix.mpr hx) ⟨.ref b,H,I,rfl,q b H (Zg.refl H) (by rw[hx];exact hb)⟩
 refine HT.Zpr p1 p2 (λz=>hx (r1.Zix.mp z)) (λz=>⟨.ref a,H,I,rfl,q a H (Zg.refl H) (by rw[r2.Zix.mp z,List.append_nil];exact ha)⟩) (λz=>?_) (by rw[<-r1.length,<-r2.length];exact hz)
 refine⟨.ref s.heap.objs.size,_,I.laid (t':=s.toks) (o:=.tup (xs++ys)) (λb ob q=>Yn _ q) (Ye _) ?_,rfl,q _ _ ((Zg.refl H).upd (I.hok.fresh (Ye _))) Zc⟩
 exact⟨by rw[Yy];exact hz,_,r1.append r2,IsTup.new _ _⟩
noncomputable def rCatK (K:Frag):R2:=λx y H Q=>∃(a b:Addr) (xs ys:List V),x=.ref a/\y=.ref b/\SqL K H a xs/\SqL K H b ys/\xs.length+ys.length<=sizeLine/\∀p,H p=none->Q (.ref p) (upd H p (.lst (xs++ys)))
theorem Zly {K:Frag} (hK:X.K=K):OpR X (binaryOp .Add) (rCatK K):=by
 subst hK
 intro pins s σ H x y v u Q I rx ry h
 obtain⟨a,b,xs,ys,rfl,rfl,ha,hb,hz,q⟩:=h
 cases rx
 cases ry
 obtain⟨its,r1,p1,_⟩:=I.list ha
 obtain⟨its2,r2,p2,_⟩:=I.list hb
 obtain⟨⟨c1,d1,x1,l1⟩,e1,k1,n1,y1⟩:=p1.isList
 obtain⟨⟨c2,d2,x2,l2⟩,e2,k2,n2,y2⟩:=p2.isList
 simp only at k1 y1 k2 y2
 subst k1 y1 k2 y2
 refine concat_meets ⟨_,e1,rfl⟩ ⟨_,e2,rfl⟩ noFill_list_add seq_list_add PySem.F.slot_list_add PySem.F.entry_list_add (PySem.F.args_list_add_2 _ _) (list_addW a b its.toArray its2.toArray n1 n2 d1 d2 l1 l2 (by rw[Yl,Yl,<-r1.length,<-r2.length];exact hz)) ⟨e1,e2,?_⟩
 have ea:its.toArray++its2.toArray=(its++its2).toArray:=by simp
 rw[ea]
 exact⟨.ref _,_,I.lnew (t':=s.toks) (r1.append r2) (by rw[Yy];exact hz),rfl,q _ I.fresh⟩
end
noncomputable abbrev itO (l:Addr):Obj:={cls:=.type "list_iterator",data:=.fields #[.ref l,.int 0 0]}
noncomputable abbrev zA (h:Heap) (a:Addr):Heap:=h.push (itO a)
noncomputable abbrev zB (h:Heap) (a b:Addr):Heap:=(zA h a).push (itO b)
section
variable {X:Cx}
theorem pe_bmK {K:Frag}{T:String}{id:String}{name:Str}{r:V->List V->Hp->VK->Prop}{o e:Expr}{es:List Expr}{to:TE}{t:TA}{apos cpos:Pos} (hK:X.K=K) (pa:PlainAttrs T) (slot:Slot T name id) (hty:typeOf (.builtin id)=pure (.type "method_descriptor")) (hm:MtM X id r) (ho:PE X o to) (ha:PA X (e::es) t)
  (hbase:attributeBase o name X.env (eval o X.env)=eval o X.env:=by rfl)
  (hfew:((backTo cpos (starEach (e::es) X.env)).all (λx=>!x.1)&&(backToKw cpos (keywordEach [] X.env)).all (λx=>x.1.isSome)
   && decide ((e::es).length+([]:List Keyword).length+(if ([]:List Keyword).isEmpty then 0 else 1)<30))=true:=by rfl)
  (hline:(apos.endLine==cpos.line)=true:=by rfl) (hs:starEach (e::es) X.env=(false,eval e X.env)::starEach es X.env:=by rfl) (hplain:(backTo cpos (starEach es X.env)).any (·.1)=false:=by rfl) :
  PE X (.Call (.Attribute o name apos) (e::es) [] cpos) (tBM K T r to t):=by
 subst hK
 exact Zdj pa slot hty hm ho ha hbase hfew hline hs hplain
end
end L2
namespace L2
open PySem PySem.Spec PyProof.Rows PySem.W PySem.Calls
noncomputable def ZcB (h:Heap) (d:Addr) (vs:List Value) (ep:Nat):Prop:=∃(o:Obj) (es:Array DictEntry),h.get? d=some o/\o.cls=.type "dict"/\o.data=.dict es ep/\es.toList.map (·.val)=vs
theorem ZcB.moved {h h':Heap}{d:Addr}{vs:List Value}{ep:Nat} (x:ZcB h d vs ep) (k:∀o,h.get? d=some o->h'.get? d=some o):ZcB h' d vs ep :=
 let ⟨o,es,a,r⟩:=x;⟨o,es,k o a,r⟩
theorem ZcB.lt {h:Heap}{d:Addr}{vs:List Value}{ep:Nat} (x:ZcB h d vs ep):d<h.objs.size:=let ⟨_,_,a,_⟩:=x;Yh a
section
variable {prog:Program}{w:World}{A:Around}{E:Value->Shared->Prop}{s:Shared}{va dd ja:Addr}{vs:List Value}{ep i:Nat}
theorem Zmd {Q:Value->Shared->Prop} (hv:s.heap.IsValuesView va dd) (hm:ZcB s.heap dd vs ep)
  (kQ:Q (.ref s.heap.objs.size) {s with heap:=s.heap.push {cls:=.type "dict_valueiterator",data:=.fields #[.ref dd,.int 0 0,.int vs.length 0,.int ep 0]}}) :
  wpAny (model prog w) A (pyIter (.ref va)) Q E s:=by
 obtain⟨o1,g1,c1,f1⟩:=id hv
 obtain⟨o2,es,g2,c2,f2,e2⟩:=id hm
 refine wpAny_pyIter_slot hv.typeIs PySem.F.slot_dict_values_iter (wpAny_call_entry PySem.F.slot_dict_values_iter hv.typeIs PySem.F.entry_dict_values_iter ?_ (PySem.F.args_dict_values_iter_1 _))
 unfold Builtin.«dict_values.__iter__»;refine Ya (Yc (Ya ?_));unfold Builtin.Dict_items.dictOf
 refine Ya (wpAny_field g1 f1 (x:=.ref dd) rfl (Yc (Ya ?_)))
 unfold Builtin.Dict_items.newIterator;refine Ya (wpAny_dictEntries g2 f2 (Ya (wpAny_dictEpoch g2 f2 ?_)))
 have z1:es.size=vs.length:=by rw[<-e2];simp
 have z2:Builtin.Dict_items.ownsTuple "dict_valueiterator"=false:=by decide
 simp only[z2,Bool.false_eq_true,if_false]
 refine wpAny_newObj_type (Yc ⟨_,rfl,"dict_valueiterator",_,⟨_,Yt _ rfl,rfl⟩,PySem.F.slot_dict_valueiterator_next.lookup,?_⟩)
 simpa[rawInt,z1]using kQ
theorem Zme {x:Value}{Q:Option Value->Shared->Prop} (hi:s.heap.IsValIter ja dd i vs.length ep) (hm:ZcB s.heap dd vs ep) (hx:vs[i]?=some x)
  (kQ:∀h',h'.IsValIter ja dd (i+1) vs.length ep->Heap.SameBut ja s.heap h'->Q (some x) {s with heap:=h'}):wpAny (model prog w) A (pyNext (.ref ja)) Q E s:=by
 obtain⟨o1,g1,c1,f1⟩:=id hi
 obtain⟨o2,es,g2,c2,f2,e2⟩:=id hm
 have z1:es.size=vs.length:=by rw[<-e2];simp
 have z2:Builtin.Dict_items.ownsTuple "dict_valueiterator"=false:=by decide
 have hl:i<es.size:=by
  rw[z1]
  exact(Yi.mp hx).1
 have hval:es[i].val=x:=by
  rw[<-e2,Yw,Array.getElem?_toList,Array.getElem?_eq_getElem hl]at hx
  exact Yo hx
 unfold pyNext
 refine Ya (wpAny_attempt (wpAny_callSpecial?_slot (name:=Str.ofString "__next__") hi.typeIs PySem.F.slot_dict_valueiterator_next (wpAny_call_entry PySem.F.slot_dict_valueiterator_next hi.typeIs PySem.F.entry_dict_valueiterator_next ?_ (PySem.F.args_dict_valueiterator_next_1 _))))
 refine Ya (Yc (Ya (Ya ?_)))
 first|refine Ya (wpAny_typeNameOfWhole_valiter hi.typeIs (Yc (Ya (wpAny_fieldsOf g1 f1 ?_))))|refine Ya (wpAny_typeNameOf_valiter hi.typeIs (Yc (Ya (wpAny_fieldsOf g1 f1 ?_))))
 simp only[z2,Bool.false_eq_true,if_false]
 show wpAny _ _ (if (Value.ref dd==Value.none)=true then _ else _) _ _ s
 rw[Yb (show ¬ ((Value.ref dd==Value.none)=true)from Yr)]
 refine Ya (Yc (Ya (wpAny_dictEntries g2 f2 ?_)))
 rw[Yb (by rw[z1];simp)]
 refine Ya (Yc (Ya (wpAny_dictEpoch g2 f2 ?_)))
 rw[Yb (by simp)]
 refine Yc ?_
 simp only[show ¬ ((i:Int)<0)from by omega,if_false,Y4,Array.getElem?_eq_getElem hl]
 refine Ya ?_
 first|refine Ya (wpAny_typeNameOfWhole_valiter hi.typeIs (Yc (Ya (wpAny_isOneOf_valiter hi.typeIs ?_))))|refine Ya (wpAny_typeNameOf_valiter hi.typeIs (Yc (Ya (wpAny_isOneOf_valiter hi.typeIs ?_))))
 show wpAny _ _ (setField (.ref ja) 1 (rawInt ((i:Int)+1)) >>= _) _ _ s
 refine Ya (wpAny_setField g1 f1 (by simp) ?_)
 have g3:(s.heap.update ja (Obj.mapFields (·.setIfInBounds 1 (rawInt ((i:Int)+1))))).IsValIter ja dd (i+1) vs.length ep :=
  ⟨_,Heap.get?_update_self _ g1 (Obj.isFreed_of_fields (Obj.data_mapFields f1 _)),(Obj.cls_mapFields ..).trans c1,by rw[Obj.data_mapFields f1];simp[rawInt]⟩
 refine Ya (wpAny_holding (Ya (wpAny_isOneOf_valiter (s:={s with heap:=s.heap.update ja (Obj.mapFields (·.setIfInBounds 1 (rawInt ((i:Int)+1))))}) g3.typeIs ?_)))
 refine Ya (wpAny_isOneOf_valiter (s:={s with heap:=s.heap.update ja (Obj.mapFields (·.setIfInBounds 1 (rawInt ((i:Int)+1))))}) g3.typeIs ?_)
 show wpAny _ _ (pure es[i].val) _ _ _;exact Yc (Yc ⟨_,rfl,Yc (hval▸kQ _ g3 (Heap.SameBut.update ..))⟩)
theorem ZiT {Q:Option Value->Shared->Prop} (nh:A.handled=none) (hi:s.heap.IsValIter ja dd i vs.length ep) (hm:ZcB s.heap dd vs ep) (hx:vs[i]?=none)
  (kQ:∀h',Heap.ExtBut ja s.heap h'->Q none {s with heap:=h'}):wpAny (model prog w) A (pyNext (.ref ja)) Q E s:=by
 obtain⟨o1,g1,c1,f1⟩:=id hi
 obtain⟨o2,es,g2,c2,f2,e2⟩:=id hm
 have z1:es.size=vs.length:=by rw[<-e2];simp
 have z2:Builtin.Dict_items.ownsTuple "dict_valueiterator"=false:=by decide
 unfold pyNext
 refine Ya (wpAny_attempt (wpAny_callSpecial?_slot (name:=Str.ofString "__next__") hi.typeIs PySem.F.slot_dict_valueiterator_next (wpAny_call_entry PySem.F.slot_dict_valueiterator_next hi.typeIs PySem.F.entry_dict_valueiterator_next ?_ (PySem.F.args_dict_valueiterator_next_1 _))))
 refine Ya (Yc (Ya (Ya ?_)))
 first|refine Ya (wpAny_typeNameOfWhole_valiter hi.typeIs (Yc (Ya (wpAny_fieldsOf g1 f1 ?_))))|refine Ya (wpAny_typeNameOf_valiter hi.typeIs (Yc (Ya (wpAny_fieldsOf g1 f1 ?_))))
 simp only[z2,Bool.false_eq_true,if_false]
 show wpAny _ _ (if (Value.ref dd==Value.none)=true then _ else _) _ _ s
 rw[Yb (show ¬ ((Value.ref dd==Value.none)=true)from Yr)]
 refine Ya (Yc (Ya (wpAny_dictEntries g2 f2 ?_)))
 rw[Yb (by rw[z1];simp)]
 refine Ya (Yc (Ya (wpAny_dictEpoch g2 f2 ?_)))
 rw[Yb (by simp)]
 refine Yc ?_
 have ge:es.size<=i:=by rw[z1];simpa using hx
 simp only[show ¬ ((i:Int)<0)from by omega,if_false,Y4,Array.getElem?_eq_none ge]
 refine Ya ?_
 first|refine Ya (wpAny_typeNameOfWhole_valiter hi.typeIs (Yc ?_))|refine Ya (wpAny_typeNameOf_valiter hi.typeIs (Yc ?_))
 show wpAny _ _ (setField (.ref ja) 0 .none >>= _) _ _ s
 refine Ya (wpAny_setField g1 f1 (by simp) ?_)
 show wpAny _ _ (newExc (.type "StopIteration") [] >>= _) _ _ _;refine Ya ?_
 simp only[newExc,newTuple]
 refine Ya (wpAny_newObj_type ?_ (by size_fits));refine Ya (m:=firstArgMember _ _) (wpAny_of_eq (a:=Value.none) (by first|rfl|(simp only[firstArgMember];rfl)) (wpAny_newObj_type ?_ (by size_fits)))
 simp only[raiseNew]
 refine Ya (wpAny_handled ?_);rw[show A.in1.handled=none from nh]
 refine(Ya (Yc (wpAny_throw ?_)))
 refine Ya (wpAny_isInstance (b:=true) (T:="StopIteration") ⟨_,Yt _ rfl,rfl⟩ isSubtype_stop (Yc (kQ _ ?_)))
 exact((Heap.SameBut.update ..).extBut.push _).push _
theorem ZkC (nh:A.handled=none) (I dd:Addr) (hne:dd≠I) (vs:List Value) (ep:Nat) :
  Walks prog w A I [I,dd] [I] vs.length (λi x=>vs[i]?=some x) (λi h=>h.IsValIter I dd i vs.length ep/\ZcB h dd vs ep) where
 sub:=λb mb=>by simp at mb;simp[mb]
 frame:=λ_ _ _ st hk=>⟨let ⟨o,e,r⟩:=st.1;⟨o,hk I (by simp) o e,r⟩,st.2.moved λo e=>hk dd (by simp) o e⟩
 item:=λi s Q E hi st kQ=>by
  have hx:vs[i]?=some vs[i]:=Yf hi
  refine Zme st.1 st.2 hx λh' g1 g2=>?_
  exact kQ _ h' s.toks hx ⟨g1,st.2.moved λo e=>g2.extBut dd o hne e⟩ λb o mb e=>g2.extBut b o (λh=>mb (by simp[h])) e
 done:=λs Q E st kQ=>ZiT nh st.1 st.2 (by simp) λh' he'=>kQ h' s.toks λb o mb e=>he' b o (λh=>mb (by simp[h])) e
 self:=λ_ _ _ _ st0 kQ=>wpAny_pyIter_valiter st0.1 kQ
theorem Zog:KdlSrc prog w "dict_values" va dd vs.length (λi x=>vs[i]?=some x) (λh=>h.IsValuesView va dd/\ZcB h dd vs ep) where
 type:=λ_ x0=>x0.1.typeIs
 there:=λ_ hm=>⟨let ⟨_,a,_⟩:=hm.1;Yh a,hm.2.lt⟩
 keep:=λ_ _ hm hk=>⟨let ⟨o,a,x⟩:=hm.1;⟨o,hk va (.inl rfl) o a,x⟩,hm.2.moved λo e=>hk dd (.inr rfl) o e⟩
 notList:=by decide
 notTuple:=by decide
 hint:=λ_ _ _ _ x0 hq=>kdl_hint_values x0.1.typeIs hq
 iter:=λ_ _ nh hm=>⟨_,_,(λ_ _ hq=>Zmd hm.1 hm.2 hq),ZkC nh _ dd (Yp hm.2.lt) vs ep,⟨⟨_,Yt _ rfl,rfl,rfl⟩,hm.2.moved λo e=>Yn _ e⟩⟩
end
section
variable {prog:Program}{w:World}{K:Type} [DecidableEq K] {knd:HeapKind prog w K}{A:Around}{E:Value->Shared->Prop}{s:Shared}{dd ka:Addr}{k:K}{xs:List (K×Addr×Value)}{df:Value}
theorem ZiU {Q:Value->Shared->Prop} (hu:knd.room A) (hkey:knd.is s.heap k ka) (hm:s.heap.DictOfH knd dd xs) (hz:xs.length<=sizeLine)
  (h1:∀p,atKey xs k=some p->Q p.2 {s with toks:=s.toks+knd.draws k})
  (h2:atKey xs k=none->∀h',h'.DictOfH knd dd (storedH xs k ka df)->Heap.SameBut dd s.heap h'->Q df {s with heap:=h',toks:=s.toks+knd.draws k}) :
  wpAny (model prog w) A (dictSetDefault dd (.ref ka) df) Q E s:=by
 obtain⟨o,es,ep,g1,g2,g3,g4,g5,g6⟩:=hm
 unfold dictSetDefault;try with_reducible refine wpAny_holding ?_
 refine Ya (knd.pyHash hu hkey (Ya (wpAny_dictFind_heap (s:={s with toks:=s.toks+knd.draws k}) hu hkey g1 g3 g4 g5 g6 (λno=>?_) (λj p hj=>?_))))
 ·have nk:=atKey_none_of_get no
  have no':=not_mem_keys_of_get no
  refine Ya (wpAny_rule (Ya (wpAny_updateDictKeys (hz:=by have e:=size_of_entries g4;omega) (s:={s with toks:=s.toks+knd.draws k}) g1 g3 (Yc (h2 nk _ ⟨_,_,ep+1,Heap.get?_update_self _ g1 (Obj.isFreed_of_dict (Obj.data_mapDictKeys g3 _)),g2.mapDictKeys _,Obj.data_mapDictKeys g3 _,?_,?_,?_⟩ (Heap.SameBut.update ..))))))
  ·rw[storedH_new nk];simp[g4,entryOfKey]
  ·rw[storedH_new nk];intro x hx
   rcases Yz.mp hx with hx|hx0
   ·exact knd.keeps (g5 x hx) g1 g3 (Heap.SameBut.update ..)
   ·rw[Y0.mp hx0];exact knd.keeps hkey g1 g3 (Heap.SameBut.update ..)
  ·rw[storedH_new nk,YD,List.nodup_append]
   refine⟨g6,by simp,λx hx y hy e=>?_⟩
   have ey:y=k:=by simpa using hy
   exact no' (ey▸e▸hx)
 ·refine Ya (wpAny_dictEntries (s:={s with toks:=s.toks+knd.draws k}) g1 g3 ?_)
  rw[entry_at g4 j,hj]
  exact Ya (wpAny_rule (Yc (h1 p (atKey_of_get g6 hj))))
theorem Ze1 (knd:HeapKind prog w K) (dd ka:Addr) (hd:(dd==sysModules)=false) (df:Value) :
  MeetsIn prog w (Builtin.«dict.setdefault» ⟨[.ref dd,.ref ka,df],[]⟩) (λA R s=>knd.room A.in1/\∃k xs,knd.is s.heap k ka/\s.heap.DictOfH knd dd xs/\xs.length<=sizeLine /\
   (∀p,atKey xs k=some p->R (.ok (.ret p.2)) {s with toks:=s.toks+knd.draws k}) /\
   (atKey xs k=none->∀h',h'.DictOfH knd dd (storedH xs k ka df)->Heap.SameBut dd s.heap h'->R (.ok (.ret df)) {s with heap:=h',toks:=s.toks+knd.draws k})) :=
 .of_wp λA R s ⟨hu,k,xs,hkey,hm,hz,h1,h2⟩=>by
  unfold Builtin.«dict.setdefault»;refine Ya ?_;unfold Builtin.Dict.keyAndDefault
  refine(Ya (wpAny_notOrdered_dict hm.typeIs ?_))
  show wpAny _ _ (pure (dd,Value.ref ka,some df)) _ _ s
  refine Yc ?_
  show wpAny _ _ (if (dd==sysModules)=true then _ else (dictSetDefault dd (.ref ka) df >>= _)) _ _ s
  rw[Yb (show ¬ (dd==sysModules)=true from hd▸Yr)]
  exact Ya (ZiU hu hkey hm hz (λp hp=>Yc ⟨p.2,rfl,h1 p hp⟩) λhn h' hm' hs'=>Yc ⟨df,rfl,h2 hn h' hm' hs'⟩)
end
section
variable {X:Cx}{o e f:Expr}{apos cpos:Pos}{td ty tx:TE}
noncomputable def tDSetD (td ty tx:TE):TE:=fun σ H Q=>td σ H λx H1=>∃a,x=.ref a/\IsD H1 a/\ty σ H1 λy H2=>tx σ H2 λz H3=>∃kvs k b,H3 a=some (.dT kvs)/\y=.ref b/\H3 b=some (.tup (k.map kV))/\kvs.length<sizeLine /\
 (∀v,Zbz kvs k=some v->Q v H3)/\(Zbz kvs k=none->Q z (upd H3 a (.dT (kvs++[(k,z)]))))
theorem ZjK (hu:X.A.units+1<cLine) (ho:PE X o td) (he:PE X e ty) (hf:PE X f tx) (m:M2 X o "setdefault" apos e f cpos):PE X (.Call (.Attribute o "setdefault" apos) [e,f] [] cpos) (tDSetD td ty tx):=by
 intro pins s σ H Q I h
 refine wpAny_Call_method m.base m.few m.line PySem.F.plainAttrs_dict PySem.F.slot_dict_setdefault PySem.F.type_dict_setdefault (thn (ho pins s σ H _ I h) λu s1 ⟨x,H1,I1,rx,a,ex,d,q1⟩=>?_)
 subst ex
 obtain rfl:u=Value.ref a:=rx
 obtain⟨t1,t2,_⟩:=Zof I1 d
 refine⟨t1,t2,?_⟩
 rw[m.trees]
 refine Calls.callWith_builtin rfl (Calls.evalArgs_plain (Calls.spliced_cons (thn (he pins s1 σ H1 _ I1 q1) λiv s2 ⟨y,H2,I2,ry,q2⟩ =>
  Calls.spliced_cons (thn (hf pins s2 σ H2 _ I2 q2) λfv s3 ⟨z,H3,I3,rz,kvs,k,b,ea,ey,eb,hl,q3,q4⟩=>Calls.spliced_nil ?_))))
 subst ey
 cases(show iv=Value.ref b from ry)
 obtain⟨z1,hd,xs,rel,dd⟩:=dt_of I3.hok ea
 have hz:xs.length<=sizeLine:=by rw[<-Paired.length rel];exact z1
 have hv:=rel.val k
 refine call_meetsIn PySem.F.slot_dict_setdefault dd.typeIs PySem.F.entry_dict_setdefault (PySem.F.args_dict_setdefault_3 _ _ _) (Ze1 (tupleKind (ZaQ X.prog X.w)) a b hd fv) ⟨tupleKind_room_in1 hu,k,xs,ZiS I3.hok eb,dd,hz,λp hp=>?_,λhn h' dd' hs=>?_⟩
 ·rw[hp]at hv
  cases l:Zbz kvs k with
  |none=>rw[l]at hv;exact absurd hv (by intro z;cases z)
  |some v =>
   rw[l]at hv
   exact⟨v,H3,I3.tok _,hv,q3 v l⟩
 ·rw[hn]at hv
  cases l:Zbz kvs k with
  |some v=>rw[l]at hv;exact absurd hv (by intro z;cases z)
  |none =>
   obtain⟨q,es,ep,hq,h2,h3,h4,_,h5⟩:=dd'
   rw[<-Zoc z l]at q4
   have hl':(putK kvs k z).length<=sizeLine:=by have:=ZjF kvs k z;omega
   refine⟨z,_,ZpH (ob:=.dT (putK kvs k z)) I3 (by rw[ea];exact True.intro) hs ⟨q,hq⟩ ⟨hl',hd,_,(rel.put k eb rz).keeps λc ys ec=>?_,q,es,ep,hq,h2,h3,h4,h5⟩,rz,q4 l⟩
   rw[Zj (ne_of ec ea (λz=>nomatch z))]
   exact ec
end
section
variable {X:Cx}{o:Expr}{apos cpos:Pos}{td:TE}
noncomputable def Zg0 (v d:Addr):Heap->Prop:=λh=>h.IsValuesView v d
theorem ZkD {prog:Program}{w:World} (dd:Addr) (hd:(dd==sysModules)=false) :
  MeetsIn prog w (Builtin.«dict.values» ⟨[.ref dd],[]⟩) (λ_ R s=>s.TypeIs (.ref dd) "dict" /\
   R (.ok (.ret (.ref s.heap.objs.size))) {s with heap:=s.heap.push {cls:=.type "dict_values",data:=.fields #[.ref dd]}}) :=
 .of_wp λA R s ⟨ht,h⟩=>by
  refine Ya ?_;unfold Builtin.Dict.noArgs
  refine Ya (wpAny_notOrdered_dict ht ?_)
  show wpAny _ _ (pure dd) _ _ s
  refine Yc ?_
  show wpAny _ _ (Builtin.Dict.showsAll dd >>= _) _ _ s
  unfold Builtin.Dict.showsAll;rw[Yb (show ¬ (dd==sysModules)=true from hd▸Yr)]
  exact Ya (Yc (Ya (wpAny_newObj_type (Yc ⟨_,rfl,h⟩))))
noncomputable def tDVals (td:TE):TE:=fun σ H Q=>td σ H λx H1=>∃a kvs,x=.ref a/\H1 a=some (.dT kvs)/\∀v,H1 v=none->Q (.ref v) (upd H1 v (.ext (Zg0 v a)))
theorem Zoh (ho:PE X o td) (hbase:attributeBase o "values" X.env (eval o X.env)=eval o X.env:=by rfl) (hline:(apos.endLine==cpos.line)=true:=by rfl):PE X (.Call (.Attribute o "values" apos) [] [] cpos) (tDVals td):=by
 intro pins s σ H Q I h
 refine wpAny_Call_method0_late hbase hline (thn (ho pins s σ H _ I h) λu s1 ⟨x,H1,I1,rx,a,kvs,ex,ea,q⟩=>?_)
 subst ex
 obtain rfl:u=Value.ref a:=rx
 obtain⟨t1,t2,hd⟩:=Zof I1 (.inr ⟨kvs,.inl ea⟩)
 refine⟨"dict",_,PySem.F.plainAttrs_dict,PySem.F.slot_dict_values,PySem.F.type_dict_values,t1,t2,Calls.callWith_builtin rfl (PySem.evalArgs_none ?_)⟩
 refine call_meetsIn PySem.F.slot_dict_values t1 PySem.F.entry_dict_values (PySem.F.args_dict_values_1 _) (ZkD a hd) ⟨t1,?_⟩
 refine⟨.ref s1.heap.objs.size,_,I1.laid (t':=s1.toks) (a:=s1.heap.objs.size) (o:=.ext (Zg0 s1.heap.objs.size a)) (λb o e=>Yn _ e) (Ye _) ⟨⟨_,Yt _ rfl,rfl,rfl⟩,⟨_,Yt _ rfl⟩,λh1 h2 e k=>?_⟩,rfl,q _ (I1.hok.fresh (Ye _))⟩
 obtain⟨o,a1,a2⟩:=e
 exact⟨o,k o a1,a2⟩
theorem ZpL {H:Hp}{kvs:List (List Key×V)}{xs:List (List Key×Addr×Value)} (r:KT H kvs xs):Vals (kvs.map (·.2)) (xs.map (·.2.2)):=by
 induction r with
 |nil=>exact .nil
 |cons h t ih=>exact .cons h.2.2 ih
noncomputable def rLVals:List V->Hp->VK->Prop:=λxs H Q=>∃(v a:Addr) (kvs:List (List Key×V)),xs=[.ref v]/\H v=some (.ext (Zg0 v a))/\H a=some (.dT kvs)/\∀l,H l=none->Q (.ref l) (upd H l (.lst (kvs.map (·.2))))
theorem Zg1 (hc:X.calm=true):Zcz X (.type "list") rLVals:=by
 intro pins s σ H xs us Q I r h
 obtain⟨v,a,kvs,rfl,hv,ha,q⟩:=h
 obtain⟨u,rfl,ru⟩:=r.one
 cases(show u=Value.ref v from ru)
 obtain⟨hz,lo,ys,rel,o,es,ep,g1,g2,g3,g4,g5,g6⟩:=dt_of I.hok ha
 have hV:s.heap.IsValuesView v a:=(show ZO X.prog X.w H s.heap v (.ext (Zg0 v a))from I.hok v _ hv).1
 have hA:ZcB s.heap a (ys.map (·.2.2)) ep:=⟨o,es,g1,g2.1,g3,by rw[g4,YU];rfl⟩
 have hl:(ys.map (·.2.2)).length<=sizeLine:=by rw[Yg,<-Paired.length rel];exact hz
 refine kdl_call (A:=X.A) Zog (I.ok.hd hc) ⟨hV,hA⟩ hl λh' tk acc c kp hS hacc=>?_
 have eacc:acc.toList=ys.map (·.2.2):=by
  refine List.ext_getElem? λi=>?_
  rw[Array.getElem?_toList]
  rcases Nat.lt_or_ge i acc.size with hi|hi
  ·have:=hacc.2 i acc[i] (Array.getElem?_eq_getElem hi)
   rw[this,Array.getElem?_eq_getElem hi]
  ·rw[Array.getElem?_eq_none hi,List.getElem?_eq_none (by rw[<-hacc.1];exact hi)]
 have hsz:s.heap.objs.size<h'.objs.size:=Yh hS
 refine⟨.ref s.heap.objs.size,_,I.laid (t':=tk) (a:=s.heap.objs.size) (o:=.lst (kvs.map (·.2))) kp (Ye _) ⟨by rw[Yg];exact hz,acc.toList,c,by rw[eacc];exact ZpL rel,by rw[hS,Array.toArray_toList]⟩,rfl,q _ (I.hok.fresh (Ye _))⟩
end
theorem ZiV {κ:Type} [DecidableEq κ] {k:κ}{v:V}:∀{kvs:List (κ×V)},Zbz kvs k=some v->∃(i:Nat) (h:i<kvs.length),kvs[i]=(k,v)
 |[],h=>by simp[Zbz]at h
 |p::r,h=>by
  by_cases e:p.1=k
  ·rw[ZbU e]at h
   exact⟨0,by simp,by cases p;cases e;cases h;rfl⟩
  ·rw[ZbV e]at h
   obtain⟨i,h1,h2⟩:=ZiV h
   exact⟨i+1,by simpa using h1,by simpa using h2⟩
noncomputable def Zi (E:Nat->Nat->Bool) (j:Nat):List Nat:=(List.range j).filter λa=>(List.range a).all λb=>!E b a
noncomputable def Zc3 (E:Nat->Nat->Bool) (j f:Nat):List Nat:=(List.range j).filter λb=>E b f
theorem Zif (E:Nat->Nat->Bool) (j f:Nat):Zc3 E (j+1) f=Zc3 E j f++(if E j f=true then [j]else []):=by
 unfold Zc3
 rw[YL,List.filter_append]
 by_cases e:E j f=true
 ·simp[e]
 ·simp[e]
theorem Zgc {E:Nat->Nat->Bool}{j b:Nat} (hb:b<j) (e:E b j=true):Zi E (j+1)=Zi E j:=by
 unfold Zi
 rw[YL,List.filter_append]
 have:((List.range j).all λb=>!E b j)=false:=by
  rw[Bool.eq_false_iff];intro h
  have:=List.all_eq_true.mp h b (Yx.mpr hb)
  rw[e]at this;cases this
 simp[this]
theorem Zgd {E:Nat->Nat->Bool}{j:Nat} (h:∀b,b<j->E b j=false):Zi E (j+1)=Zi E j++[j]:=by
 unfold Zi
 rw[YL,List.filter_append]
 have:((List.range j).all λb=>!E b j)=true:=List.all_eq_true.mpr λb hb=>by rw[h b (Yx.mp hb)];rfl
 simp[this]
theorem Zag {E:Nat->Nat->Bool}{j f:Nat}:f∈Zi E j↔f<j/\∀b,b<f->E b f=false:=by
 unfold Zi
 rw[YH,Yx,List.all_eq_true]
 constructor
 ·rintro⟨a,b⟩
  exact⟨a,λc hc=>by have:=b c (Yx.mpr hc);simpa using this⟩
 ·rintro⟨a,b⟩
  exact⟨a,λc hc=>by rw[b c (Yx.mp hc)];rfl⟩
theorem Ze2 {E:Nat->Nat->Bool} (tr:∀a b c,E a b=true->E b c=true->E a c=true) (rf:∀a,E a a=true) (j:Nat):∀a,a<j->∃f,f∈Zi E j/\E f a=true/\f<=a:=by
 intro a
 induction a using Nat.strongRecOn with
 |ind a ih =>
  intro ha
  by_cases h:∀b,b<a->E b a=false
  ·exact⟨a,Zag.mpr ⟨ha,h⟩,rf a,Ye _⟩
  ·obtain⟨b,hb⟩:=Classical.not_forall.mp h
   obtain⟨hb1,hb2⟩:=Classical.not_imp.mp hb
   have hb3:E b a=true:=by cases e:E b a with|true=>rfl|false=>exact absurd e hb2
   obtain⟨f,f1,f2,f3⟩:=ih b hb1 (by omega)
   exact⟨f,f1,tr _ _ _ f2 hb3,by omega⟩
theorem ZhE (E:Nat->Nat->Bool) (j:Nat):(Zi E j).Nodup:=List.Pairwise.filter _ List.nodup_range
end L2
namespace L2
open PySem PySem.Spec PyProof.Rows PySem.W
noncomputable def Zmf (K:Frag) (f:Addr):Option Addr:=match K.lookup f with
 |some ⟨_,_,.func fd,_⟩=>(match fd.code with|.ref c=>some c|_=>none)
 |_=>none
noncomputable def tabOf (K:Frag) (c:Addr):Addr:=match K.lookup c with
 |some ⟨_,_,.fields vs,_⟩=>(match (vs[11]?:Option Value)with|some (.ref P)=>P|_=>0)
 |_=>0
noncomputable def Zg2 (K:Frag) (mg:Str->Option Value) (x:Str):Addr:=match mg x with
 |some (.ref f)=>(match Zmf K f with|some c=>tabOf K c|none=>0)
 |_=>0
noncomputable def Zg3 (q:Str):HO:=.tbl #[.str q 0]
noncomputable def BM (mg:Str->Option Value) (base:Heap):Prop :=
 ∃bm o,mg "__builtins__"=some (.ref bm)/\bm≠builtinsNs/\bm≠mainGlobals/\base.get? bm=some o/\o.cls=.type "module"/\o.dict=some builtinsNs/\o.data=.plain
noncomputable def LamO (env:Env) (P:Addr) (q:Str) (params:Arguments) (body:Expr) (scope:Scope) (H:Hp) (f:Addr):Prop :=
 ∃c oc vs t cl pm ctv,H f=some (.frz (kla_obj "<lambda>" q params body scope cl pm c ctv) (.own f))/\H c=some (.frz oc (.own P))/\oc.data=.fields vs/\vs[1]?=some (.str q t) /\
  (∀x c,cl.lookup x=some c->env.cells.lookup x=some c)/\(∀y∈scope.names,y.2=.free->∃c,cl.lookup y.1=some c/\env.cells.lookup y.1=some c)
structure LamIn (X:Cx) (P:Addr) (q:Str):Prop where
 code:∃c,X.env.code=.ref c/\codeHdIn X.K c P=true
 bm:BM X.mg X.base
 ql:X.env.qual++"<lambda>"=q
theorem ZkE {pos:Pos}{a b:Int}{c cv:Value}:∀(l:List Value),TriplesOk l->codeAmong pos (l++[rawInt a,rawInt b,c])=some cv->codeAmong pos l=some cv\/cv=c:=by
 intro l h e
 fun_induction TriplesOk l with
 |case1 =>
  simp only[List.nil_append,codeAmong,rawInt]at e
  split at e
  ·cases e;exact .inr rfl
  ·cases e
 |case2 a' t b' u x rest ih =>
  simp only[List.cons_append,codeAmong]at e⊢
  split at e
  ·rename_i hc;rw[Yd hc];exact .inl e
  ·rename_i hc;rw[Yb hc];exact ih h e
 |case3 l h1 h2=>exact h.elim
section
variable {X:Cx}
theorem Inv.lam {pins:List (Addr×Obj)}{σ:St}{H:Hp}{s:Shared}{h':Heap}{t':Nat}{P c f:Addr}{q:Str}{oc fo:Obj}{ts:Array Value}{vs:Array Value}{tq:Tok}
  (I:Inv X pins σ H s) (hP:H P=some (Zg3 q)) (k:∀b o,b≠P->s.heap.get? b=some o->h'.get? b=some o) (hts:h'.get? P=some (tabObj ts)) (h3:TriplesOk ts.toList)
  (hc:H c=some (.frz oc (.own P))\/s.heap.objs.size<=c) (hcP:c≠P) (hoc:h'.get? c=some oc) (hd:oc.data=.fields vs) (hv:vs[1]?=some (.str q tq)) (hf:s.heap.objs.size<=f) (hfc:f≠c) (hfo:h'.get? f=some fo)
  (hcodes:∀pos cv,codeAmong pos ts.toList=some cv->cv=.ref c\/∃c2 oc vs t t',cv=.ref c2/\H c2=some (.frz oc (.own P))/\oc.data=.fields vs/\vs[1]?=some (.str q t)/\t'=(0:Tok)) :
  Inv X pins σ (upd (upd H c (.frz oc (.own P))) f (.frz fo (.own f))) {s with heap:=h',toks:=t'}:=by
 have hPlt:P<s.heap.objs.size:=I.hok.lt hP
 have hfP:f≠P:=λz=>by rw[z]at hf;exact absurd (Ym hPlt hf) (Yu _)
 have hfn:H f=none:=I.hok.fresh hf
 have up:∀b o,H b=some o->upd (upd H c (.frz oc (.own P))) f (.frz fo (.own f)) b=some o:=λb o e=>by
  have nf:b≠f:=Zw e hfn
  rw[Zj nf]
  rcases hc with hc|hc
  ·by_cases z:b=c
   ·subst z;rw[Zc,<-e,hc]
   ·rw[Zj z];exact e
  ·rw[Zj (Zw e (I.hok.fresh hc))];exact e
 have un:Un X.fs [] H (upd (upd H c (.frz oc (.own P))) f (.frz fo (.own f))) s.heap h':=by
  have nP:∀b,H b=none->b≠P:=λb n z=>by rw[z,hP]at n;cases n
  refine⟨λb o e n _ _=>k b o (nP b n) e,λb o e n _ _=>⟨o.slots,k b o (nP b n) e⟩,λb o e n _=>?_,λb o e _=>?_,λb xs e=>up _ _ e,λb o u e=>up _ _ e,λb ps e=>⟨#[],by rw[up _ _ e];simp⟩⟩
  ·have lt:=Yh e
   have nf:b≠f:=λz=>by rw[z]at lt;exact absurd (Ym lt hf) (Yu _)
   have nc:b≠c:=λz=>by
    rcases hc with hc|hc
    ·rw[z,hc]at n;cases n
    ·rw[z]at lt;exact absurd (Ym lt hc) (Yu _)
   rw[Zj nf,Zj nc];exact n
  ·by_cases z:b=P
   ·subst z;exact⟨_,hts⟩
   ·exact⟨o,k b o z e⟩
 refine I.un un λb o e=>?_
 by_cases zf:b=f
 ·subst zf
  rw[Zc]at e;cases e
  exact⟨hfo,_,hfo⟩
 rw[Zj zf]at e
 by_cases zc:b=c
 ·subst zc
  rw[Zc]at e;cases e
  exact⟨hoc,_,hoc⟩
 rw[Zj zc]at e
 by_cases zP:b=P
 ·subst zP
  rw[hP]at e;cases e
  refine⟨ts,hts,h3,λpos cv hcv=>?_⟩
  rcases hcodes pos cv hcv with rfl|⟨c2,oc2,vs2,t2,t2',e1,e2,e3,e4,_⟩
  ·exact⟨c,oc,vs,q,0,tq,rfl,by rw[Zj (Ne.symm hfc),Zc],hd,rfl,hv⟩
  ·exact⟨c2,oc2,vs2,q,0,t2,e1,up _ _ e2,e3,rfl,e4⟩
 ·refine(I.hok b o e).Zgp (λb2 u hb z=>k b2 u ?_ z) (λb2 z=>up _ _ z) (λb2 xs z=>up _ _ z) λb2 o2 u2 z=>up _ _ z
  rcases hb with rfl|hb
  ·exact zP
  ·intro z;rw[z,hP]at hb;cases hb
noncomputable def tLam (env:Env) (P:Addr) (q:Str) (params:Arguments) (body:Expr) (scope:Scope):TE:=λ_ H Q=>H P=some (Zg3 q)/\∀f H',H f=none->Zg H H'->LamO env P q params body scope H' f->Q (.ref f) H'
theorem Zoi {P:Addr}{q:Str}{params:Arguments}{body:Expr}{scope:Scope}{pos:Pos} (L:LamIn X P q) (hok:compOk X.env.scope scope=true) (hdef:defaultsOf params X.env=([],[]):=by rfl) :
  PE X (.Lambda params body scope pos) (tLam X.env P q params body scope):=by
 intro pins s σ H Q I h
 obtain⟨hP,h⟩:=h
 obtain⟨c0,hc0,hcd⟩:=L.code
 have C:CodeHd s.heap c0 P:=codeHd_of_K I.kIn hcd
 obtain⟨bm,ob,b1,b2,b3,b4,b5,b6,b7⟩:=L.bm
 have hbm:=I.bs bm ob b4
 have bP:bm≠P:=λz=>by rw[z,hP]at hbm;cases hbm.2
 have gP:mainGlobals≠P:=λz=>by
  obtain⟨o,es,ep,e,_⟩:=I.ok.mod.glob
  have:=(I.bs _ _ e).2
  rw[z,hP]at this;cases this
 have hg:s.heap.Ns mainGlobals X.mg:=I.ok.mod.glob.keeps I.bk
 have hb:s.heap.BuiltinsAt X.mg P:=⟨bm,ob,b1,b2,b3,bP,hbm.1,b5,b6,b7⟩
 obtain⟨ts,hts,h3,hco⟩:=I.hok P _ hP
 obtain⟨cl,hcl,up,hfr⟩:=Zkq (env:=X.env) (scope:=scope) λy hy hf=>I.ok.has y.1 ((Zgb hok y hy hf).elim (λz=>.inl z) λz=>.inr z)
 have hco':∀pos cv,codeAmong pos ts.toList=some cv->∃c2 oc vs t t',cv=.ref c2/\H c2=some (.frz oc (.own P))/\oc.data=.fields vs/\vs[1]?=some (.str q t)/\t'=(0:Tok):=λpos cv e=>by
  obtain⟨c,oc,vs,q',t,t',e1,e2,e3,e4,e5⟩:=hco pos cv e
  have e4':some (Value.str q (0:Tok))=some (Value.str q' t):=e4
  cases e4'
  exact⟨c,oc,vs,t',0,e1,e2,e3,e5,rfl⟩
 refine kla_eval hdef ?_
 rw[L.ql]
 cases hca:codeAmong pos ts.toList with
 |some cv =>
  obtain⟨c,oc,vs,tq,t',rfl,e2,e3,e4,_⟩:=hco' pos cv hca
  refine kla_makeFunctionHit (mg:=X.mg) hcl I.ok.glob hg hc0 C hts h3 hca hb λctv h' tk hk hsz=>?_
  have hoc:s.heap.get? c=some oc:=(I.hok c _ e2).1
  have hcP:c≠P:=λz=>by rw[z,hP]at e2;cases e2
  have lt:=Yh hoc
  have kk:∀b o,s.heap.get? b=some o->(h'.push {cls:=.type "function",data:=.func (kla_fn "<lambda>" q params body scope cl ((X.mg "__name__").getD .none) (.ref c) ctv)}).get? b=some o:=λb o e=>Yn _ (hk b o e)
  have J:=I.lam (t':=tk) (f:=h'.objs.size) hP (λb o _ e=>kk b o e) (kk _ _ hts) h3 (.inl e2) hcP (kk _ _ hoc) e3 e4 hsz (λz=>by rw[<-z]at lt;exact absurd (Ym lt hsz) (Yu _)) (Yt _ rfl) λp2 cv2 z=>.inr (hco' p2 cv2 z)
  have hfn:H h'.objs.size=none:=I.hok.fresh hsz
  have ne:c≠h'.objs.size:=Yp (Ym lt hsz)
  refine⟨.ref h'.objs.size,_,J,rfl,h _ _ hfn (λb o e=>?_) ⟨c,oc,vs,tq,cl,_,ctv,Zc,by rw[Zj ne,Zc],e3,e4,up,hfr⟩⟩
  rw[Zj (Zw e hfn)]
  by_cases z:b=c
  ·subst z;rw[Zc,<-e,e2]
  ·rw[Zj z];exact e
 |none =>
  refine kla_makeFunction (mg:=X.mg) hcl I.ok.glob hg hc0 C hts h3 hca gP hb λc ctv h' tk hx hge hlt hrec htb=>?_
  obtain⟨c2,oc,vs,tq,e2,hoc,e3,e4⟩:=hrec
  cases e2
  have hsz:s.heap.objs.size<=h'.objs.size:=Yj hge (YN hlt)
  have kk:∀b o,h'.get? b=some o->(h'.push (kla_obj "<lambda>" q params body scope cl ((X.mg "__name__").getD .none) c ctv)).get? b=some o:=λb o e=>Yn _ e
  have hPlt:P<s.heap.objs.size:=I.hok.lt hP
  have hcP:c≠P:=λz=>by rw[z]at hge;exact absurd (Ym hPlt hge) (Yu _)
  have tl:(ts++#[rawInt pos.line,rawInt pos.col,Value.ref c]).toList=ts.toList++[rawInt pos.line,rawInt pos.col,Value.ref c]:=by simp
  have J:=I.lam (t':=tk) (f:=h'.objs.size) (ts:=ts++#[rawInt pos.line,rawInt pos.col,.ref c]) hP (λb o nb e=>kk b o (hx b o nb e)) (kk _ _ htb) (by rw[tl];exact TriplesOk_snoc _ _ _ _ h3) (.inr hge) hcP (kk _ _ hoc) e3 e4 hsz (Nat.ne_of_gt hlt) (Yt _ rfl) λp2 cv2 z=>by
   rw[tl]at z
   rcases ZkE ts.toList h3 z with y|y
   ·exact .inr (hco' p2 cv2 y)
   ·exact .inl y
  have hfn:H h'.objs.size=none:=I.hok.fresh hsz
  have hcn:H c=none:=I.hok.fresh hge
  refine⟨.ref h'.objs.size,_,J,rfl,h _ _ hfn (λb o e=>?_) ⟨c,oc,vs,tq,cl,_,ctv,Zc,by rw[Zj (Yp hlt),Zc],e3,e4,up,hfr⟩⟩
  rw[Zj (Zw e hfn),Zj (Zw e hcn)];exact e
end
noncomputable def ZjL (x:Str):Str:=(x++".<locals>.")++"<lambda>"
noncomputable def ZkF (K:Frag) (mg:Str->Option Value) (x:Str) (H:Hp):Prop:=H (Zg2 K mg x)=some (Zg3 (ZjL x))
theorem ZkF.same {K:Frag}{mg:Str->Option Value}{x:Str}{H H':Hp} (h:ZkF K mg x H) (s:Zg H H'):ZkF K mg x H':=s _ _ h
noncomputable def LamD (K:Frag) (mg:Str->Option Value) (x:Str) (f:Addr):Prop:=∃c,Zmf K f=some c/\codeHdIn K c (Zg2 K mg x)=true
section
variable {P:Program}{w:World}{K:Frag}{mg:Str->Option Value}{base:Heap}
theorem Fun.okL {x qual:Str}{st:Stmt}{f:Addr}{fd:FuncData}{N ps:List Str}{k:Nat}{sp:Sp} (F:Fun K x qual st f fd) (L:LamD K mg qual f) (B:BM mg base) (S:FnScope N ps (defScope st)) (len:∀vs H Q E,sp vs H Q E->vs.length=ps.length)
  (hbody:∀(cdv:Value) (A:Around) (outer:List Env) (s:Shared) (H:Hp) (vs:List V) (Q:VK) (E:XK),LamIn (ZeW (CXE P w) P w K mg base N qual (defScope st) f cdv A outer s H E) (Zg2 K mg qual) (ZjL qual)->Room k (A.deeper (envOfC qual (defScope st) s.heap.objs.size f cdv))->sp vs H Q E ->
   ∃t,PSs (ZeW (CXE P w) P w K mg base N qual (defScope st) f cdv A outer s H E) (defBody st) t/\t {nx:=λ_ H'=>Q .non H',rt:=Q} (start N vs) H):FnOk P w K mg base (CXE P w) (k+1) f fd ps sp:=by
 obtain⟨oc,od,kV,doc,pm,an,cdv,ct,osl,rfl,lk,hcd⟩:=F.ex
 obtain⟨c,h1,h2⟩:=L
 have e:cdv=.ref c:=by
  unfold Zmf at h1
  rw[lk]at h1
  dsimp only at h1
  cases cdv<;>first|(cases h1;rfl)|(cases h1;done)
 exact ZnJ lk hcd S len λA outer s H vs Q E hr hsp=>hbody cdv A outer s H vs Q E ⟨⟨c,e,h2⟩,B,rfl⟩ hr hsp
end
theorem Zoj {b:Addr}{q:Str}:∀{l:List (Addr×Str)},l.lookup b=some q->(b,q)∈l
 |[],e=>by cases e
 |(c,y)::r,e=>by
  rw[List.lookup_cons]at e
  cases hb:b==c with
  |true=>rw[hb]at e;cases e;rw[eq_of_beq hb];exact YX
  |false=>rw[hb]at e;exact YR _ (Zoj e)
theorem Zlz {K:Frag}{mg:Str->Option Value}{x:Str}{f c T:Addr}{oc1 oc2:Value}{od1 od2:Option Addr}{fd:FuncData}{sl1 sl2:Array (Option Value)}{vs:Array Value} (hm:mg x=some (.ref f)) (l1:K.lookup f=some ⟨oc1,od1,.func fd,sl1⟩) (e:fd.code=.ref c) (l2:K.lookup c=some ⟨oc2,od2,.fields vs,sl2⟩) (h11:vs[11]?=some (.ref T)):Zg2 K mg x=T/\Zmf K f=some c:=by
 have h1:Zmf K f=some c:=by
  unfold Zmf
  rw[l1]
  dsimp only
  rw[e]
 refine⟨?_,h1⟩
 unfold Zg2
 rw[hm]
 dsimp only
 rw[h1]
 dsimp only
 unfold tabOf
 rw[l2]
 dsimp only
 rw[h11]
theorem Zmg {P:Program}{w:World}{K:Frag}{mg mb:Str->Option Value}{CX:CXT}{k:Nat}{fa a:Addr}{fd:FuncData}{x:Str}{sp:Sp}{s₁:Shared}{vs:List Value}{ns:List Int}{tabs:List (Addr×Str)}
  (KX:K.In s₁.heap) (hns:s₁.heap.Ns mainGlobals mg) (hb:s₁.heap.Ns builtinsNs mb) (hbb:∀x:Str,x≠"__name__"->mb x=bootBuiltins x) (hlim:s₁.heap.NoLimit) (hg:s₁.gens=#[]) (hbm:BM mg s₁.heap)
  (ha:s₁.heap.get? a=some {cls:=.type "list",data:=.seq vs.toArray}) (hi:IntsAre vs ns) (hl:ns.length<=sizeLine) (hr:Room k callerA)
  (hT:∀p∈tabs,s₁.heap.get? p.1=some (tabObj #[])/\K.lookup p.1=none/\∃c,codeHdIn K c p.1=true) (nd:(tabs.map (·.1)).Nodup)
  (F:∀base:Heap,K.In base->base.Ns mainGlobals mg->BM mg base->FnOk P w K mg base CX k fa fd [x] sp) (hbind:∀(s:Shared) (u:Value),BindsTo s fd ⟨[u],[]⟩ [(x,u)])
  (hsp:∀H:Hp,SqL K H a (ns.map V.int)->(∀p∈tabs,H p.1=some (Zg3 p.2))->sp [.ref a] H (λv _=>v=.bl true) λ_ _ _=>False)
  (hCX:∀H e s',CX [] H s₁ (λ_ _ _=>False) e s'->False) :
  codeAny (model P w) callerA (.call (.ref fa) ⟨[.ref a],[]⟩) (λr s'=>r=.ok (.ret (.bool true))/\OldK s₁.heap s'.heap/\s'.os=s₁.os/\AllBare s'.gens) s₁:=by
 have rv:=ZhZ hi
 have lenV:=hi.length
 have tmem:∀b q,tabs.lookup b=some q->(b,q)∈tabs:=λb q e=>Zoj e
 have tlook:∀p∈tabs,tabs.lookup p.1=some p.2:=by
  clear hT hsp tmem
  induction tabs with
  |nil=>intro p hp;cases hp
  |cons t r ih =>
   intro p hp
   rw[YC,List.nodup_cons]at nd
   rcases Yk.mp hp with rfl|hp
   ·rw[List.lookup_cons,beq_self_eq_true]
   ·have:(p.1==t.1)=false:=beq_eq_false_iff_ne.mpr λz=>nd.1 (YQ.mpr ⟨p,hp,z⟩)
    rw[List.lookup_cons,this]
    exact ih nd.2 p hp
 have core:∀H:Hp,SqL K H a (ns.map V.int)->HOk P w H s₁.heap->(∀b,H b=none\/(b=a/\K.lookup a=none/\∃o xs,H b=some (.frz o (.lst xs)))\/∃q,(b,q)∈tabs/\H b=some (Zg3 q))->(∀p∈tabs,H p.1=some (Zg3 p.2)) ->
   codeAny (model P w) callerA (.call (.ref fa) ⟨[.ref a],[]⟩) (λr s'=>r=.ok (.ret (.bool true))/\OldK s₁.heap s'.heap/\s'.os=s₁.os/\AllBare s'.gens) s₁:=by
  intro H hS hok hA hTb
  have base_of:∀{b:Addr}{o:Obj},s₁.heap.get? b=some o->H b=none->(Zhx s₁.heap H).get? b=some o:=λe n=>Zny e n
  have noA:∀{b:Addr}{o:Obj},s₁.heap.get? b=some o->o.cls≠.type "list"->o.cls≠.none->H b=none:=λ{b o} e d1 d2=>by
   rcases hA b with z|⟨z,_⟩|⟨q,z,_⟩
   ·exact z
   ·subst z;rw[ha]at e;cases e;exact absurd rfl d1
   ·rw[(hT _ z).1]at e;cases e;exact absurd rfl d2
  have noD:∀{b:Addr}{o:Obj}{es:Array DictEntry}{ep:Nat},s₁.heap.get? b=some o->o.data=.dict es ep->H b=none:=λ{b o es ep} e d=>by
   rcases hA b with z|⟨z,_⟩|⟨q,z,_⟩
   ·exact z
   ·subst z;rw[ha]at e;cases e;cases d
   ·rw[(hT _ z).1]at e;cases e;cases d
  have nsK:∀{b:Addr}{m:Str->Option Value},s₁.heap.Ns b m->(Zhx s₁.heap H).Ns b m:=λ{b m} ⟨o,es,ep,e,d,r⟩=>⟨o,es,ep,base_of e (noD e d),d,r⟩
  have hKb:K.In (Zhx s₁.heap H):=λb o e=>base_of (KX b o e) (by
   rcases hA b with z|⟨z,zk,_⟩|⟨q,z,_⟩
   ·exact z
   ·subst z;rw[zk]at e;cases e
   ·rw[(hT _ z).2.1]at e;cases e)
  have hM:Mod K mg (Zhx s₁.heap H):=⟨hKb,nsK hns,⟨mb,nsK hb,hbb⟩,let ⟨mc,h1,h2⟩:=hlim;⟨mc,nsK h1,h2⟩⟩
  have hB:BM mg (Zhx s₁.heap H):=by
   obtain⟨bm,ob,b1,b2,b3,b4,b5,b6,b7⟩:=hbm
   exact⟨bm,ob,b1,b2,b3,base_of b4 (noA b4 (by rw[b5];decide) (by rw[b5];nofun)),b5,b6,b7⟩
  have e0:Env0 P w K mg (Zhx s₁.heap H) callerA [] s₁ H:=⟨rfl,hM,λb o e=>Zpo e,Nat.le_of_eq (ZlG _ _),trivial,λb hb=>absurd (show b∈([]:List Addr)from hb) (by simp),hok,.of_eq hg⟩
  refine codeAny_mono ((F _ hKb (nsK hns) hB).run callerA [] s₁ H ⟨[.ref a],[]⟩ [.ref a] [.ref a] _ _ hr e0 (hbind s₁ (.ref a)) (.cons rfl .nil) (hsp H hS hTb)) λr s' h=>?_
  cases r with
  |error e=>exact(hCX H e s' h).elim
  |ok fl =>
   cases fl with
   |next=>exact False.elim h
   |brk=>exact False.elim h
   |cont=>exact False.elim h
   |ret u =>
    obtain⟨v,H',os,bare,un,hok',r',q⟩:=h
    have q':v=.bl true:=q
    subst q'
    obtain rfl:u=Value.bool true:=r'
    have old:∀b o,s₁.heap.get? b=some o->asItWas s₁.heap s'.heap b o/\∃o',s'.heap.get? b=some o':=λb o e=>by
     rcases hA b with z|⟨_,_,ob,xs,z⟩|⟨q,zm,z⟩
     ·have:=un.keep b o e z (by intro y;exact absurd (show b∈([]:List Addr)from y) (by simp)) (by simp)
      exact⟨.inl this,o,this⟩
     ·have z2:=un.frzs b ob _ z
      obtain⟨e1,_⟩:=hok b _ z
      obtain⟨e2,_⟩:=hok' b _ z2
      rw[e]at e1;cases e1
      exact⟨.inl e2,o,e2⟩
     ·obtain⟨more,z2⟩:=un.tbls b _ z
      obtain⟨ts,e2,_⟩:=hok' b _ z2
      obtain⟨t1,_,c,t3⟩:=hT _ zm
      have t1':s₁.heap.get? b=some (tabObj #[]):=t1
      rw[e]at t1';cases t1'
      refine⟨.inr (.inl ⟨((codeHd_of_K KX t3).tab t1).isCodeTable,rfl,#[],ts,rfl,by rw[Array.empty_append];exact e2⟩),_,e2⟩
    exact⟨rfl,⟨λb o e=>(old b o e).1,λb o e=>(old b o e).2⟩,os,bare⟩
 have neA:∀q,(a,q)∉tabs:=λq z=>by
  have:=(hT _ z).1
  rw[show((a,q):Addr×Str).1=a from rfl,ha]at this;cases this
 have tabok:∀(H:Hp) (b:Addr) (q:Str),(b,q)∈tabs->ZO P w H s₁.heap b (Zg3 q):=λH b q z=>⟨#[],(hT _ z).1,trivial,λpos cv e=>by cases e⟩
 cases hk:K.lookup a with
 |some o =>
  have e:=KX a o hk
  rw[ha]at e
  cases e
  refine core (λb=>(tabs.lookup b).map Zg3) (.inr ⟨_,vs.toArray,_,hk,rfl,rfl,rfl,by rw[Yl,lenV];exact hl,by simpa using rv⟩) (λb u z=>?_) (λb=>?_) λp hp=>by rw[tlook p hp];rfl
  ·dsimp only at z
   cases q:tabs.lookup b with
   |none=>rw[q]at z;cases z
   |some y=>rw[q]at z;cases z;exact tabok _ b y (tmem b y q)
  ·cases q:tabs.lookup b with
   |none=>exact .inl rfl
   |some y=>exact .inr (.inr ⟨y,tmem b y q,rfl⟩)
 |none =>
  refine core (λb=>if b=a then some (.frz {cls:=.type "list",data:=.seq vs.toArray} (.lst (ns.map V.int)))else (tabs.lookup b).map Zg3) (.inl (.inr ⟨{cls:=.type "list",data:=.seq vs.toArray},Yd rfl⟩)) (λb u z=>?_) (λb=>?_) λp hp=>?_
  ·by_cases hb:b=a
   ·have z':=(Yd hb).symm.trans z
    cases z'
    subst hb
    exact⟨ha,by rw[Yg];exact hl,vs,_,rv,ha⟩
   ·have z':=(Yb hb).symm.trans z
    cases q:tabs.lookup b with
    |none=>rw[q]at z';cases z'
    |some y=>rw[q]at z';cases z';exact tabok _ b y (tmem b y q)
  ·by_cases hb:b=a
   ·exact .inr (.inl ⟨hb,hk,_,_,Yd hb⟩)
   ·cases q:tabs.lookup b with
    |none=>exact .inl (by rw[Yb hb];rfl)
    |some y=>exact .inr (.inr ⟨y,tmem b y q,by rw[Yb hb];rfl⟩)
  ·have:p.1≠a:=λz=>neA p.2 (by rw[<-z];exact hp)
   rw[Yb this,tlook p hp];rfl
theorem Zok {l:OpenLaw}{n k:Nat}{q:Program}{loose:List Str}{XP:(Str->Option Value)->Heap->Prop}{YP:World->Heap->Prop}{d:DefRec}{K:Params->Frag}{CX:World->CXT}{sp:World->(Str->Option Value)->Sp}{x:Str}{ts:List Addr}{tabs:Frag->(Str->Option Value)->List (Addr×Str)}
  (hn:l.most=some n) (hn2:n<=sizeLine) (hdf:d.params.defaults=[]) (hr:Room k callerA)
  (hY:∀(w:World) (h:Heap),YP w h->(K w.params).In h) (hY2:∀(w:World) (h:Heap),YP w h->∀P∈ts,h.get? P=some (tabObj #[]))
  (F:∀(w:World) (mg:Str->Option Value) (fa:Addr) (h:Heap),(K w.params).In h->h.Ns mainGlobals mg->mg d.name=some (.ref fa) ->
   ∃fd:FuncData,(∀(s:Shared) (u:Value),BindsTo s fd ⟨[u],[]⟩ [(x,u)])/\(∀p∈tabs (K w.params) mg,p.1∈ts/\(K w.params).lookup p.1=none/\∃c,codeHdIn (K w.params) c p.1=true)/\((tabs (K w.params) mg).map (·.1)).Nodup /\
    ∀base:Heap,(K w.params).In base->base.Ns mainGlobals mg->BM mg base->FnOk l.prog w (K w.params) mg base (CX w) k fa fd [x] (sp w mg))
  (hsp:∀(w:World) (mg:Str->Option Value) (H:Hp) (a:Addr) (ns:List Int),ns.length<=n->SqL (K w.params) H a (ns.map V.int)->(∀p∈tabs (K w.params) mg,H p.1=some (Zg3 p.2))->sp w mg [.ref a] H (λv _=>v=.bl true) λ_ _ _=>False)
  (hCX:∀(w:World) (H:Hp) (s:Shared) (e:Value) (s':Shared),CX w [] H s (λ_ _ _=>False) e s'->False) :
  WalkO q loose XP YP l.row.toRowW d [] (λf vs=>PySem.call f vs):=by
 refine Att.Zji hn hdf λw s₀ s₁ mg mb fa o pm cd doc a vs ns G Y ho hd hcd hmg hobj hints hlen hg=>?_
 have KX:=hY w _ Y
 have TX:=hY2 w _ Y
 obtain⟨fd,hb,hT,nd,hF⟩:=F w mg fa _ KX G.T.g hmg
 have hbm:BM mg s₁.heap:=by
  obtain⟨bm,ob,b1,b2,b3,b4,b5,b6⟩:=G.T.bmain
  have bG:bm≠mainGlobals:=λz=>by
   obtain⟨o,es,ep,e,hd,_⟩:=G.T.g
   rw[z,e]at b3;cases b3;rw[hd]at b6;cases b6
  exact⟨bm,ob,b1,b2,bG,b3,b4,b5,b6⟩
 exact Zmg KX G.T.g G.T.b G.T.builtins G.T.nolimit hg hbm hobj hints (Yj hlen hn2) hr (λp hp=>⟨TX _ (hT p hp).1,(hT p hp).2⟩) nd hF hb (λH hS hTb=>hsp w mg H a ns hlen hS hTb) λH e s'=>hCX w H s₁ e s'
inductive EqN (K:Frag) (H:Hp):Nat->V->V->Bool->Prop
 |flat {n:Nat}{x y:V} (fx:flatV x=true) (fy:flatV y=true):EqN K H n x y (eqV x y)
 |lst {n:Nat}{a b:Addr}{xs ys:List V} (e:Nat->Bool) (hx:SqL K H a xs) (hy:SqL K H b ys) (hl:xs.length=ys.length) (h:∀j x y,xs[j]?=some x->ys[j]?=some y->EqN K H n x y (e j)):EqN K H (n+1) (.ref a) (.ref b) ((List.range xs.length).all e)
 |len {n:Nat}{a b:Addr}{xs ys:List V} (hx:SqL K H a xs) (hy:SqL K H b ys) (hl:xs.length≠ys.length):EqN K H (n+1) (.ref a) (.ref b) false
 |tup {n:Nat}{a b:Addr}{xs ys:List V} (e:Nat->Bool) (hx:SqT K H a xs) (hy:SqT K H b ys) (h:∀j x y,xs[j]?=some x->ys[j]?=some y->EqN K H n x y (e j)):EqN K H (n+1) (.ref a) (.ref b) ((List.range (min xs.length ys.length)).all e&&xs.length==ys.length)
 |nonT {n:Nat}{a:Addr}{xs:List V} (hx:SqT K H a xs):EqN K H n .non (.ref a) false
 |tNon {n:Nat}{a:Addr}{xs:List V} (hx:SqT K H a xs):EqN K H n (.ref a) .non false
 |iT {n:Nat}{i:Int}{a:Addr}{xs:List V} (hx:SqT K H a xs):EqN K H n (.int i) (.ref a) false
section
variable {X:Cx}{pins:List (Addr×Obj)}{σ:St}{H:Hp}{s:Shared}
theorem ZjM (I:Inv X pins σ H s) {n:Nat}{x y:V}{b:Bool} (h:EqN X.K H n x y b):x=y->b=true:=by
 induction h with
 |flat fx fy=>rintro rfl;exact Zjq fx
 |lst e hx hy hl h ih =>
  intro z
  cases z
  have:=I.ZbQ hx hy
  subst this
  refine List.all_eq_true.mpr λj hj=>?_
  have hj':=Yx.mp hj
  exact ih j _ _ (Yf hj') (Yf hj') rfl
 |len hx hy hl =>
  intro z
  cases z
  have:=I.ZbQ hx hy
  subst this
  exact absurd rfl hl
 |tup e hx hy h ih =>
  intro z
  cases z
  have:=I.ZfD hx hy
  subst this
  rw[Nat.min_self]
  have:(List.range _).all e=true:=List.all_eq_true.mpr λj hj=>by
   have hj':=Yx.mp hj
   exact ih j _ _ (Yf hj') (Yf hj') rfl
  rw[this];simp
 |nonT hx=>intro z;cases z
 |tNon hx=>intro z;cases z
 |iT hx=>intro z;cases z
theorem Zol (I:Inv X pins σ H s) {n:Nat}{x y:V}{b:Bool} (h:EqN X.K H n x y b):∀(A:Around) (u v:Value),A.units+n<cLine->RelV x u->RelV y v->SeqAt.EqAt A s u v b:=by
 induction h with
 |flat fx fy=>intro A u v _ ru rv;exact ZnN ru rv fx fy
 |@lst n a b xs ys e hx hy hl h ih =>
  intro A u v hu ru rv
  have hb:=ZjM I (.lst e hx hy hl h)
  cases ru
  cases rv
  by_cases hab:a=b
  ·subst hab
   rw[hb rfl];exact SeqAt.EqAt.same _
  ·obtain⟨is1,r1,p1,_⟩:=I.list hx
   obtain⟨is2,r2,p2,_⟩:=I.list hy
   have e1:=r1.length
   have e2:=r2.length
   have key:=SeqAt.RcAt.lists (A:=A) (s:=s) (e:=e) p1.isList p2.isList (by simp;omega) (by omega) λj h1 h2=>by
    have h1':j<xs.length:=by simpa[e1]using h1
    have h2':j<ys.length:=by simpa[e2]using h2
    obtain⟨u,hu1,ru⟩:=r1.get (Yf h1')
    obtain⟨v,hv1,rv⟩:=r2.get (Yf h2')
    have eu:is1.toArray[j]=u:=by simpa using(Yi.mp hu1).2
    have ev:is2.toArray[j]=v:=by simpa using(Yi.mp hv1).2
    rw[eu,ev]
    exact ih j _ _ (Yf h1') (Yf h2') A.in1 u v (by show A.units+1+n<cLine;omega) ru rv
   have e3:is1.toArray.size=xs.length:=by simp[e1]
   rw[e3]at key
   exact SeqAt.EqAt.of_refs hab key
 |@len n a b xs ys hx hy hl =>
  intro A u v hu ru rv
  cases ru
  cases rv
  have hab:a≠b:=λz=>by subst z;exact hl (congrArg List.length (I.ZbQ hx hy))
  obtain⟨is1,r1,p1,_⟩:=I.list hx
  obtain⟨is2,r2,p2,_⟩:=I.list hy
  have e1:=r1.length
  have e2:=r2.length
  exact SeqAt.EqAt.of_refs hab (SeqAt.RcAt.lists_lengths p1.isList p2.isList (by simp;omega) (by omega))
 |@tup n a b xs ys e hx hy h ih =>
  intro A u v hu ru rv
  have hb:=ZjM I (.tup e hx hy h)
  cases ru
  cases rv
  by_cases hab:a=b
  ·subst hab
   rw[hb rfl];exact SeqAt.EqAt.same _
  ·obtain⟨is1,r1,p1,_⟩:=I.tuple hx
   obtain⟨is2,r2,p2,_⟩:=I.tuple hy
   have e1:=r1.length
   have e2:=r2.length
   have key:=SeqAt.RcAt.tuples (A:=A) (s:=s) (e:=e) p1 p2 (by omega) λj h1 h2=>by
    have h1':j<xs.length:=by simpa[e1]using h1
    have h2':j<ys.length:=by simpa[e2]using h2
    obtain⟨u,hu1,ru⟩:=r1.get (Yf h1')
    obtain⟨v,hv1,rv⟩:=r2.get (Yf h2')
    have eu:is1.toArray[j]=u:=by simpa using(Yi.mp hu1).2
    have ev:is2.toArray[j]=v:=by simpa using(Yi.mp hv1).2
    rw[eu,ev]
    exact ih j _ _ (Yf h1') (Yf h2') A.in1 u v (by show A.units+1+n<cLine;omega) ru rv
   have e3:is1.toArray.size=xs.length:=by simp[e1]
   have e4:is2.toArray.size=ys.length:=by simp[e2]
   rw[e3,e4]at key
   exact SeqAt.EqAt.of_refs hab key
 |nonT hx =>
  intro A u v hu ru rv
  cases ru
  cases rv
  obtain⟨is1,r1,p1,_⟩:=I.tuple hx
  exact SeqAt.EqAt.none_tuple p1 (by omega)
 |tNon hx =>
  intro A u v hu ru rv
  cases ru
  cases rv
  obtain⟨is1,r1,p1,_⟩:=I.tuple hx
  exact SeqAt.EqAt.tuple_none p1 (by omega)
 |iT hx =>
  intro A u v hu ru rv
  obtain⟨t,rfl⟩:=ru
  cases rv
  obtain⟨is1,r1,p1,_⟩:=I.tuple hx
  exact SeqAt.EqAt.int_tuple _ _ p1 (by omega)
end
noncomputable def rEqN (K:Frag) (neg:Bool):R2:=λx y H Q=>∃a b k,x=.ref a/\y=.ref b/\EqN K H 3 x y k/\Q (.bl (if neg then !k else k)) H
section
variable {X:Cx}
theorem Ze3 {K:Frag} (hK:X.K=K) {k:Nat} (hr:Room k X.A):OpR X (compareOp .NotEq) (rEqN K true):=by
 subst hK
 have hu0:=hr.un
 intro pins s σ H x y v u Q I rx ry h
 obtain⟨a,b,k,rfl,rfl,h,q⟩:=h
 cases rx
 cases ry
 cases h with
 |flat fx fy=>cases fx
 |@lst n _ _ xs ys e hx hy hl h =>
  obtain⟨is1,r1,p1,_⟩:=I.list hx
  obtain⟨is2,r2,p2,_⟩:=I.list hy
  have e1:=r1.length
  have e2:=r2.length
  have e3:is1.toArray.size=xs.length:=by simp[e1]
  refine SeqAt.RcNeAt.lists (e:=e) p1.isList p2.isList (by simp;omega) (by omega) (λj h1 h2=>?_) _ _ _ _ ⟨.bl _,H,I,rfl,by rw[e3];exact q⟩
  have h1':j<xs.length:=by simpa[e1]using h1
  have h2':j<ys.length:=by simpa[e2]using h2
  obtain⟨u,hu1,ru⟩:=r1.get (Yf h1')
  obtain⟨v,hv1,rv⟩:=r2.get (Yf h2')
  have eu:is1.toArray[j]=u:=by simpa using(Yi.mp hu1).2
  have ev:is2.toArray[j]=v:=by simpa using(Yi.mp hv1).2
  rw[eu,ev]
  exact Zol I (h j _ _ (Yf h1') (Yf h2')) X.A.in1 u v (by show X.A.units+1+2<cLine;omega) ru rv
 |@len n _ _ xs ys hx hy hl =>
  obtain⟨is1,r1,p1,_⟩:=I.list hx
  obtain⟨is2,r2,p2,_⟩:=I.list hy
  have e1:=r1.length
  have e2:=r2.length
  exact SeqAt.RcNeAt.lists_lengths p1.isList p2.isList (by simp;omega) (by omega) _ _ _ _ ⟨.bl _,H,I,rfl,q⟩
 |@tup n _ _ xs ys e hx hy h =>
  obtain⟨is1,r1,p1,_⟩:=I.tuple hx
  obtain⟨is2,r2,p2,_⟩:=I.tuple hy
  have e1:=r1.length
  have e2:=r2.length
  have e3:is1.toArray.size=xs.length:=by simp[e1]
  have e4:is2.toArray.size=ys.length:=by simp[e2]
  refine SeqAt.RcNeAt.tuples (e:=e) p1 p2 (by omega) (λj h1 h2=>?_) _ _ _ _ ⟨.bl _,H,I,rfl,by rw[e3,e4];exact q⟩
  have h1':j<xs.length:=by simpa[e1]using h1
  have h2':j<ys.length:=by simpa[e2]using h2
  obtain⟨u,hu1,ru⟩:=r1.get (Yf h1')
  obtain⟨v,hv1,rv⟩:=r2.get (Yf h2')
  have eu:is1.toArray[j]=u:=by simpa using(Yi.mp hu1).2
  have ev:is2.toArray[j]=v:=by simpa using(Yi.mp hv1).2
  rw[eu,ev]
  exact Zol I (h j _ _ (Yf h1') (Yf h2')) X.A.in1 u v (by show X.A.units+1+2<cLine;omega) ru rv
end
noncomputable def EqQ (K:Frag) (H:Hp) (n:Nat) {α:Type} [DecidableEq α] (P:V->α->Prop):Prop:=∀x y a b,P x a->P y b->EqN K H n x y (decide (a=b))
theorem Zdu {K:Frag}{H:Hp}{n:Nat}:EqQ K H n IsI:=by
 rintro x y a b rfl rfl
 have:=EqN.flat (K:=K) (H:=H) (n:=n) (x:=.int a) (y:=.int b) rfl rfl
 have e:eqV (.int a) (.int b)=decide (a=b):=by simp[eqV,Bool.beq_eq_decide_eq]
 rw[<-e];exact this
theorem Zfr {K:Frag}{H:Hp}{n:Nat}{α:Type} [DecidableEq α] {P:V->α->Prop} (h:EqQ K H n P):EqQ K H (n+1) (IsL K H P):=by
 rintro x y as bs ⟨a,xs,rfl,hx,lx,px⟩ ⟨b,ys,rfl,hy,ly,py⟩
 by_cases hl:as.length=bs.length
 ·rw[<-all_eq as bs hl,<-lx]
  refine .lst _ hx hy (by omega) λj x y h1 h2=>?_
  have j1:=(Yi.mp h1).1
  have j2:=(Yi.mp h2).1
  have ha:as[j]?=some as[j]:=Yf (by omega)
  have hb:bs[j]?=some bs[j]:=Yf (by omega)
  have:=h x y _ _ (px j _ _ h1 ha) (py j _ _ h2 hb)
  rw[ha,hb]
  simpa using this
 ·have e:decide (as=bs)=false:=by simp;intro z;exact hl (congrArg List.length z)
  rw[e]
  exact .len hx hy (by omega)
theorem ZlA {K:Frag}{H:Hp}{n:Nat}{α:Type} [DecidableEq α] {P:V->α->Prop} (h:EqQ K H n P):EqQ K H (n+1) (IsT K H P):=by
 rintro x y as bs ⟨a,xs,rfl,hx,lx,px⟩ ⟨b,ys,rfl,hy,ly,py⟩
 have key:=EqN.tup (K:=K) (H:=H) (n:=n) (λj=>decide (as[j]?=bs[j]?)) hx hy λj x y h1 h2=>by
  have j1:=(Yi.mp h1).1
  have j2:=(Yi.mp h2).1
  have ha:as[j]?=some as[j]:=Yf (by omega)
  have hb:bs[j]?=some bs[j]:=Yf (by omega)
  have:=h x y _ _ (px j _ _ h1 ha) (py j _ _ h2 hb)
  rw[ha,hb]
  simpa using this
 have e:((List.range (min xs.length ys.length)).all (λj=>decide (as[j]?=bs[j]?))&&xs.length==ys.length)=decide (as=bs):=by
  rw[lx,ly]
  by_cases hl:as.length=bs.length
  ·rw[<-hl,Nat.min_self,all_eq as bs hl];simp
  ·have e:decide (as=bs)=false:=by simp;intro z;exact hl (congrArg List.length z)
   rw[e]
   simp[hl]
 rw[e]at key
 exact key
section
variable {ky:Keyed->Int}
noncomputable def Srt (ky:Keyed->Int) (l:List Keyed):Prop:=l.Pairwise (λx y=>ky x<=ky y)
variable {a b out:List Keyed}{ia ib:Nat}
noncomputable def Gd (ky:Keyed->Int) (a b res:List Keyed):Prop:=res.Perm (a++b)/\Srt ky res
variable {prog:Program}{w:World}{A:Around}{E:Value->Shared->Prop}{s:Shared}{κ:SortKind}{P:Keyed->Prop}
end
section
variable {ky:Keyed->Int}
noncomputable def kp (ky:Keyed->Int) (a:Array Keyed) (i:Nat):Int:=ky (a.getD i (Value.none,Value.none))
theorem kp_at {a:Array Keyed}{i:Nat} (h:i<a.size):kp ky a i=ky a[i]:=by unfold kp;simp[Array.getD,h]
noncomputable def SoR (ky:Keyed->Int) (a:Array Keyed) (l r:Nat):Prop:=∀i j,l<=i->i<=j->j<r->kp ky a i<=kp ky a j
structure Chg (a a':Array Keyed) (l r:Nat):Prop where
 perm:a'.Perm a
 same:∀i,i<l\/r<=i->a'[i]?=a[i]?
variable {prog:Program}{w:World}{A:Around}{E:Value->Shared->Prop}{s:Shared}{κ:SortKind}{P:Keyed->Prop}
end
section
variable {ky:Keyed->Int}
variable {a a':Array Keyed}
theorem ZlB (base:Nat):∀(m:List Keyed) (n:Nat) (a:Array Keyed),base+n+m.length<=a.size ->
  (List.foldl (λ(a:Array Keyed) (x:Keyed×Nat)=>a.setIfInBounds (base+x.2) x.1) a (m.zipIdx n)).toList=a.toList.take (base+n)++m++a.toList.drop (base+n+m.length)
 |[],n,a,h=>by simp
 |x::m,n,a,h=>by
  simp only[YK]at h
  rw[List.zipIdx_cons,List.foldl_cons,ZlB base m (n+1) _ (by simp;omega)]
  simp only[Array.toList_setIfInBounds,YK]
  have e1:(a.toList.set (base+n) x).take (base+(n+1))=a.toList.take (base+n)++[x]:=by
   rw[<-Nat.add_assoc,List.take_add_one,List.take_set,List.getElem?_set]
   rw[List.set_eq_of_length_le (by simp;omega)]
   simp[show base+n<a.size by omega]
  have e2:(a.toList.set (base+n) x).drop (base+(n+1)+m.length)=a.toList.drop (base+n+(m.length+1)):=by
   rw[List.drop_set_of_lt (by omega)]
   congr 1;omega
  rw[e1,e2]
  simp
variable {prog:Program}{w:World}{A:Around}{E:Value->Shared->Prop}{s:Shared}{κ:SortKind}{P:Keyed->Prop}
theorem laid {base mid r:Nat}{res:Array Keyed} (h1:base<=mid) (h2:mid<=r) (h3:r<=a.size) (hg:Gd ky (a.extract base mid).toList (a.extract mid r).toList res.toList) :
  ∃a':Array Keyed,List.foldl (λ(a:Array Keyed) (x:Keyed×Nat)=>a.setIfInBounds (base+x.2) x.1) a res.toList.zipIdx=a'/\Chg a a' base r/\SoR ky a' base r/\∀j,base<=j->j<r->∃t,base<=t/\t<r/\kp ky a' j=kp ky a t:=by
 have hlen:res.toList.length=r-base:=by
  have:=hg.1.length_eq
  simp only[Yy,YS,Array.size_extract]at this⊢;omega
 have key:=ZlB base res.toList 0 a (by omega)
 have hb:base+0+res.toList.length=r:=by omega
 rw[hb,Nat.add_zero]at key
 refine⟨_,rfl,⟨?_,?_⟩,?_,?_⟩
 ·rw[Array.perm_iff_toList_perm,key]
  have e:a.toList=a.toList.take base++((a.extract base mid).toList++(a.extract mid r).toList)++a.toList.drop r:=by
   simp only[Array.toList_extract,List.extract_eq_drop_take]
   have:(a.toList.drop base).take (mid-base)++(a.toList.drop mid).take (r-mid)=(a.toList.drop base).take (r-base):=by
    have e2:r-base=(mid-base)+(r-mid):=by omega
    rw[e2,List.take_add,List.drop_drop]
    congr 3;omega
   rw[this]
   have e3:a.toList.drop r=(a.toList.drop base).drop (r-base):=by rw[List.drop_drop];congr 1;omega
   rw[e3,YV,Y7,Y7]
  conv=>rhs;rw[e]
  exact List.Perm.append_right _ (List.Perm.append_left _ hg.1)
 ·intro i hi
  rw[<-Array.getElem?_toList,<-Array.getElem?_toList,key]
  have hl0:(a.toList.take base).length=base:=by simp;omega
  rcases hi with hi|hi
  ·rw[YV,YZ (by omega),List.getElem?_take_of_lt hi]
  ·rw[YY (by simp;simp at hlen;omega),List.getElem?_drop]
   congr 1
   simp only[Yy,hl0,hlen];omega
 all_goals
  have atm:∀j,(hj0:base<=j)->(hj:j<r)->kp ky (List.foldl (λ(a:Array Keyed) (x:Keyed×Nat)=>a.setIfInBounds (base+x.2) x.1) a res.toList.zipIdx) j=ky (res.toList[j-base]'(by omega)):=by
   intro j j1 j2
   have hl0:(a.toList.take base).length=base:=by simp;omega
   have:(List.foldl (λ(a:Array Keyed) (x:Keyed×Nat)=>a.setIfInBounds (base+x.2) x.1) a res.toList.zipIdx)[j]?=some (res.toList[j-base]'(by omega)):=by
    rw[<-Array.getElem?_toList,key,YV,YY (by omega),YZ (by omega),hl0,Yf (by omega)]
   unfold kp
   rw[Array.getD_eq_getD_getElem?,this];rfl
 ·intro i j hi hij hj
  rw[atm i hi (by omega),atm j (by omega) hj]
  by_cases e:i=j
  ·subst e;exact Int.le_refl _
  ·exact List.pairwise_iff_getElem.mp hg.2 _ _ _ _ (by omega)
 ·intro j j1 j2
  rw[atm j j1 j2]
  have hm:(res.toList[j-base]'(by omega))∈(a.extract base mid).toList++(a.extract mid r).toList:=(List.Perm.mem_iff hg.1).mp (YM _)
  rcases Yz.mp hm with hm|hm
  ·obtain⟨t,ht,e⟩:=List.mem_iff_getElem.mp hm
   simp only[YS,Array.size_extract]at ht
   simp only[Array.getElem_toList,Array.getElem_extract]at e
   exact⟨base+t,by omega,by omega,by rw[kp_at (by omega),e,Array.getElem_toList]⟩
  ·obtain⟨t,ht,e⟩:=List.mem_iff_getElem.mp hm
   simp only[YS,Array.size_extract]at ht
   simp only[Array.getElem_toList,Array.getElem_extract]at e
   exact⟨mid+t,by omega,by omega,by rw[kp_at (by omega),e,Array.getElem_toList]⟩
end
end L2
namespace L2
open PySem PySem.Spec PyProof.Rows
end L2
namespace L2
open PySem PySem.Spec PyProof.Rows PySem.W
end L2
namespace L2
open PySem PySem.Spec PyProof.Rows PySem.W PySem.Calls
end L2
namespace L2
open PySem PySem.Spec PyProof.Rows PySem.W
theorem le1 {n:Nat}{us:List Value} (e:us.length=n+1):∃a t,us=a::t/\t.length=n:=by
 cases us with
 |nil=>cases e
 |cons a t=>exact⟨a,t,rfl,Nat.succ.inj e⟩
theorem le0 {us:List Value} (e:us.length=0):us=[]:=List.length_eq_zero_iff.mp e
end L2
namespace L2
open PySem PySem.Spec PyProof.Rows PySem.W PyProof
section
variable {X:Cx}
noncomputable def rIsiS (K:Frag):List V->Hp->VK->Prop:=λxs H Q=>∃p ys v,xs=[.ref p,v]/\cOf v=some (.type "tuple")/\SqT K H p ys/\Q (.bl true) H
theorem Zmh {K:Frag} (hK:X.K=K):Zcz X (.builtin "isinstance") (rIsiS K):=by
 subst hK
 intro pins s σ H xs us Q I r h
 obtain⟨p,ys,v,rfl,hc,ht,q⟩:=h
 obtain⟨u,u2,rfl,ru,ru2⟩:=r.two
 have e2:u2=.type "tuple":=by
  cases v with
  |ref a=>cases hc
  |ty n=>have:=(show u2=Value.type n from ru2);cases hc;exact this
  |_=>cases hc
 subst e2
 cases(show u=Value.ref p from ru)
 obtain⟨its,_,⟨o,h1,h2,_⟩,_⟩:=I.tuple ht
 exact kia_one kitx_tuple I.kIn ⟨o,h1,h2⟩ (show kitOne X.K (.type "tuple") (.type "tuple")=some true by with_unfolding_all rfl) (λz=>nomatch z) λtk=>⟨.bl true,H,I.tok tk,rfl,q⟩
end
end L2
namespace L2
open PySem PySem.Spec PyProof.Rows PySem.W
noncomputable def rIndexD (K:Frag):V->List V->Hp->VK->Prop:=λx vs H Q=>∃(l q:Addr) (as:List Addr) (e:Addr->Bool) (j:Nat),x=.ref l/\vs=[.ref q]/\SqL K H l (as.map V.ref)/\as.length<=100000/\(∀a∈as,EqD K H 3 (.ref a) (.ref q) (e a))/\(∃a,as[j]?=some a/\e a=true)/\(∀(i:Nat) (a:Addr),i<j->as[i]?=some a->e a=false)/\Q (.int (j:Nat)) H
section
variable {X:Cx}
theorem Zmi {K:Frag} (hK:X.K=K) {k:Nat} (hr:Room k X.A):MtM X "list.index" (rIndexD K):=by
 subst hK
 have hu0:=hr.un
 intro pins s σ H x vs v us Q I rx rv h
 obtain⟨l,q,as,e,j,rfl,rfl,hH,hz,he,⟨a,ha,hea⟩,hb,hQ⟩:=h
 cases rx
 obtain⟨u,rfl,ru⟩:=rv.one
 cases ru
 obtain⟨its,r,pl,_⟩:=I.list hH
 have hi:=ZfJ r
 subst hi
 obtain⟨⟨cls,dd,data,sl⟩,ho,hc,n,hd⟩:=pl.isList
 simp only at hc hd
 subst hc hd
 have hj:j<as.length:=(Yi.mp ha).1
 refine call_meets F.slot_list_index ⟨_,ho,rfl⟩ F.entry_list_index (F.args_list_index_2 _ _)
  (SeqAt.list_indexAt l (as.map Value.ref).toArray n dd sl (.ref q) (eU e) j (by rw[Yl,Yg];omega) (by omega) ?_ ?_) ⟨ho,λw hw=>?_,⟨.int _,H,I.tok _,⟨_,rfl⟩,hQ⟩⟩
 ·have:(as.map Value.ref).toArray[j]'(by simpa using hj)=.ref a:=by
   obtain⟨h1,h2⟩:=Yi.mp ha
   simp[h2]
  rw[this];exact hea
 ·intro i his hlt
  have hi:i<as.length:=by simpa using his
  have:(as.map Value.ref).toArray[i]=.ref as[i]:=by simp
  rw[this];exact hb i _ hlt (Yf hi)
 ·have hw':w∈as.map Value.ref:=by simpa using hw
  obtain⟨a,ha,rfl⟩:=YQ.mp hw'
  exact ZfG I (he a ha) _ _ _ (by show X.A.units+1+3<cLine;omega) rfl rfl
end
end L2
namespace HT
open PySem PyProof.Rows
section
open PySem.SeqAt
open PySem.AutoSeq1 (wpAny_loadPart')
open PySem.MeetsSeq PySem.MeetsSeq2 PySem.MeetsSeq3
end
end HT
namespace L2
open PySem PySem.Spec PyProof.Rows PySem.W
end L2
namespace L2
open PySem PySem.Spec PyProof.Rows PySem.W PyProof
noncomputable def Zdm (cs:List Addr) (H:Hp):Hp:=λb=>if b∈cs then none else H b
noncomputable def onC (cs:List Addr) (H H1:Hp):Hp:=λb=>if b∈cs then H b else H1 b
theorem ZeF {cs:List Addr}{H:Hp}{b:Addr} (h:b∈cs):Zdm cs H b=none:=Yd h
theorem Z7 {cs:List Addr}{H:Hp}{b:Addr} (h:b∉cs):Zdm cs H b=H b:=Yb h
theorem ZkG {cs:List Addr}{H H1:Hp}{b:Addr} (h:b∈cs):onC cs H H1 b=H b:=Yd h
theorem ZcR {cs:List Addr}{H H1:Hp}{b:Addr} (h:b∉cs):onC cs H H1 b=H1 b:=Yb h
noncomputable def CellsIn (cs:List Addr) (H:Hp):Prop:=∀b∈cs,∃o v,H b=some (.frz o (.own b))/\o.data=.cell v
theorem CellsIn.out {cs:List Addr}{H:Hp} (h:CellsIn cs H) {b:Addr}{u:HO} (e:H b=some u) (n:∀o v,u=.frz o (.own b)->o.data=.cell v->False):b∉cs:=λhb=>by
 obtain⟨o,v,e2,e3⟩:=h b hb
 rw[e]at e2
 exact n o v (Yo e2) e3
theorem ZO.stayF {P:Program}{w:World}{H H':Hp}{h h':Heap}{a:Addr}{o:HO} (x:ZO P w H h a o) (k:∀b u,(b=a\/H b=some (.own a))->h.get? b=some u->h'.get? b=some u)
  (ho:∀b,H b=some (.own a)->H' b=some (.own a)) (ht:∀b xs,H b=some (.tup xs)->H' b=some (.tup xs)) (hz:∀b o u vs,o.data=.fields vs->H b=some (.frz o u)->H' b=some (.frz o u)):ZO P w H' h' a o:=by
 induction o with
 |lst xs=>obtain⟨z,its,n,r,e⟩:=x;exact⟨z,its,n,r,k _ _ (.inl rfl) e⟩
 |tup xs=>obtain⟨z,its,r,ob,e,c⟩:=x;exact⟨z,its,r,ob,k _ _ (.inl rfl) e,c⟩
 |dK kvs=>obtain⟨z,y,vs,r,ob,es,ep,e,c⟩:=x;exact⟨z,y,vs,r,ob,es,ep,k _ _ (.inl rfl) e,c⟩
 |dT kvs =>
  obtain⟨z,y,xs,r,ob,es,ep,e,c⟩:=x
  exact⟨z,y,xs,Paired.mapP r λp q z=>⟨z.1,ht _ _ z.2.1,z.2.2⟩,ob,es,ep,k _ _ (.inl rfl) e,c⟩
 |set S n=>obtain⟨ob,es,ep,t,e,c⟩:=x;exact⟨ob,es,ep,t,k _ _ (.inl rfl) e,c⟩
 |ins C dx fs =>
  obtain⟨d,z,ne,e,mA,⟨od,es,ep,e2,c⟩,r⟩:=x
  exact⟨ho _ d,z,ne,k _ _ (.inl rfl) e,mA,⟨od,es,ep,k _ _ (.inr d) e2,c⟩,r⟩
 |own y=>obtain⟨ob,e⟩:=x;exact⟨ob,k _ _ (.inl rfl) e⟩
 |xd fs=>obtain⟨mA,⟨od,es,ep,e,c⟩,r⟩:=x;exact⟨mA,⟨od,es,ep,k _ _ (.inl rfl) e,c⟩,r⟩
 |rng lo hi=>obtain⟨t,u,v,e⟩:=x;exact⟨t,u,v,k _ _ (.inl rfl) e⟩
 |frz ob u ih=>obtain⟨e,q⟩:=x;exact⟨k _ _ (.inl rfl) e,ih q⟩
 |tbl ps =>
  obtain⟨ts,e,t3,z⟩:=x
  refine⟨ts,k a _ (.inl rfl) e,t3,λpos cv hc=>?_⟩
  obtain⟨c,oc,vs,q,t,t',e1,e2,e3,r⟩:=z pos cv hc
  exact⟨c,oc,vs,q,t,t',e1,hz _ _ _ _ e3 e2,e3,r⟩
 |met f y =>
  have e:h.get? a=some (PySem.W.methodObj (.ref f) (.ref y)):=x
  show h'.get? a=some (PySem.W.methodObj (.ref f) (.ref y))
  exact k a _ (.inl rfl) e
 |ext φ=>obtain⟨p,⟨o,e⟩,st⟩:=x;exact⟨st _ _ p λo q=>k _ _ (.inl rfl) q,⟨o,k _ _ (.inl rfl) e⟩,st⟩
theorem HOk.Zdm {P:Program}{w:World}{H:Hp}{h h':Heap}{cs:List Addr} (x:HOk P w H h) (hc:CellsIn cs H) (k:∀b o,h.get? b=some o->h'.get? b=some o):HOk P w (Zdm cs H) h':=λa o e=>by
 by_cases ha:a∈cs
 ·rw[ZeF ha]at e;cases e
 rw[Z7 ha]at e
 refine(x a o e).stayF (λb u _ z=>k b u z) (λb z=>?_) (λb xs z=>?_) λb ob u vs hd z=>?_
 ·rw[Z7 (hc.out z λ_ _ y _=>nomatch y)];exact z
 ·rw[Z7 (hc.out z λ_ _ y _=>nomatch y)];exact z
 ·rw[Z7 (hc.out z λo v y q=>by cases y;rw[hd]at q;cases q)];exact z
theorem HOk.onC {P:Program}{w:World}{H H':Hp}{h:Heap}{cs:List Addr} (x:HOk P w H' h) (hn:∀b∈cs,H' b=none) (hc:∀b∈cs,∃o,H b=some (.frz o (.own b))/\h.get? b=some o):HOk P w (onC cs H H') h:=λa o e=>by
 by_cases ha:a∈cs
 ·rw[ZkG ha]at e
  obtain⟨ob,e1,e2⟩:=hc a ha
  rw[e1]at e;cases e
  exact⟨e2,ob,e2⟩
 rw[ZcR ha]at e
 have up:∀b u,H' b=some u->L2.onC cs H H' b=some u:=λb u z=>by
  rw[ZcR (λhb=>by rw[hn b hb]at z;cases z)];exact z
 exact(x a o e).Zgp (λb u _ z=>z) (λb z=>up _ _ z) (λb xs z=>up _ _ z) λb ob u z=>up _ _ z
noncomputable def FnV (P:Program) (w:World) (K:Frag) (mg:Str->Option Value) (base:Heap) (k:Nat) (f:Addr) (sp:V->Hp->VK->Prop):Prop :=
 ∀(A:Around) (outer:List Env) (s:Shared) (H:Hp) (u:Value) (v:V) (Q:VK),Room k A->Env0 P w K mg base A outer s H->RelV v u->sp v H Q->codeAny (model P w) A (.call (.ref f) ⟨[u],[]⟩) (λr s'=>∃u',r=.ok (.ret u')/\CE outer P w H s Q u' s') s
noncomputable def ZjN (H:Hp) (f:Addr):Prop:=∃oc od fd sl u,H f=some (.frz ⟨oc,od,.func fd,sl⟩ u)
theorem ZjN.same {H H':Hp}{f:Addr} (h:ZjN H f) (s:Zg H H'):ZjN H' f:=let ⟨a,b,c,d,e,z⟩:=h;⟨a,b,c,d,e,s _ _ z⟩
section
variable {X:Cx}
noncomputable def ZkH (P:Program) (w:World) (K:Frag) (mg:Str->Option Value) (base:Heap) (k:Nat) (tf:TE) (t:TA):TE:=fun σ H Q=>tf σ H λy H1=>∃f,y=.ref f/\ZjN H1 f/\t σ H1 λvs H2=>∃v sp,vs=[v]/\ZjN H2 f/\FnV P w K mg base k f sp/\sp v H2 Q
theorem ZjO {k:Nat}{fx e:Expr}{tf:TE}{t:TA}{pos:Pos} (hr:Room k X.A) (hf:PE X fx tf) (ha:PA X [e] t)
  (hev:eval (.Call fx [e] [] pos) X.env=(do callWith pos (<-eval fx X.env) [] (backTo pos (starEach [e] X.env)) (backToKw pos (keywordEach [] X.env))):=by rfl)
  (he:starEach [e] X.env=(false,eval e X.env)::starEach [] X.env:=by rfl) (hpl:(backTo pos (starEach [] X.env)).any (·.1)=false:=by rfl):PE X (.Call fx [e] [] pos) (ZkH X.prog X.w X.K X.mg X.base k tf t):=by
 intro pins s σ H Q I h
 refine Call_ (thn (hf pins s σ H _ I h) λv s1 ⟨y,H1,I1,r1,f,ey,hF1,q1⟩=>?_) hev
 subst ey
 cases r1
 have fat:∀{H:Hp}{s:Shared}{σ:St},Inv X pins σ H s->ZjN H f->FnAt f s.heap:=λI ⟨oc,od,fd,sl,u,z⟩=>⟨oc,od,fd,sl,(I.hok f _ z).1⟩
 refine callWith_F (fat I1 hF1) (thn (ha pos pins s1 σ H1 _ I1 q1) λus s2 ⟨vs,H2,I2,r,v,sp,ev,hF2,hV,q⟩=>⟨fat I2 hF2,?_⟩) he hpl
 subst ev
 obtain⟨u,rfl,ru⟩:=r.one
 exact wpAny_call (codeAny_mono (hV X.A X.stack s2 H2 u v Q hr I2.env0 ru q) λr s' ⟨u',hr',z⟩=>by subst hr';exact I2.after z)
end
noncomputable def Zec (P:Program) (w:World) (K:Frag) (mg:Str->Option Value) (base:Heap) (A':Around) (outer:List Env) (Nc:List Str) (q:Str) (scope:Scope) (cl:List (Str×Addr)) (L f c:Addr) (s:Shared) (H:Hp):Cx where
 prog:=P
 w:=w
 K:=K
 mg:=mg
 base:=base
 A:=A'.deeper (envX q scope L f (.ref c) cl)
 N:=Nc
 s₀:=s
 H₀:=H
 env:=envX q scope L f (.ref c) cl
 outer:=outer
 stack:=envX q scope L f (.ref c) cl::outer
 ex:=[]
 fn:=λ_=>false
 calm:=true
 pn:=[]
 xe:=λ_ _=>False
structure LamSF (fr:List Str) (params:Arguments) (body:Expr) (scope:Scope) (pn:Str):Prop where
 cell:∀y∈scope.names,y.2≠.cell
 kind:scope.kind=.function
 frs:∀x∈fr,scope.names.lookup x=some .free
 pl:scope.names.lookup pn=some .local
 co:scope.isCoroutine=false
 gen:scope.isGenerator=false
 bd:∀(q:Str) (cl:List (Str×Addr)) (pm cd ctv u:Value),bindArgs (kla_fn "<lambda>" q params body scope cl pm cd ctv) ⟨[u],[]⟩=pure [(pn,u)]
noncomputable def Zom (Hz:Hp) (cs:List Addr) (vals:St) (tb:TE):V->Hp->VK->Prop:=λv H Q=>(∀b o u,Hz b=some (.frz o u)->H b=some (.frz o u))/\tb (some v::vals) (Zdm cs H) λx H'=>(∀b∈cs,H' b=none)->Q x (onC cs H H')
theorem ZpM {P:Program}{w:World}{K:Frag}{mg:Str->Option Value}{base:Heap}{k:Nat}{fr:List Str}{q pn:Str}{params:Arguments}{body:Expr}{scope:Scope}{tb:TE}{Hz:Hp}{f c P0:Addr}{oc:Obj}{vs:Array Value}{t:Tok}{cl:List (Str×Addr)}{pm ctv:Value}{vals:St}{cs:List Addr}
  (S:LamSF fr params body scope pn) (hbody:∀(A':Around) (outer:List Env) (cl:List (Str×Addr)) (L f c:Addr) (s:Shared) (H:Hp),Room k (Zec P w K mg base A' outer (pn::fr) q scope cl L f c s H).A->PE (Zec P w K mg base A' outer (pn::fr) q scope cl L f c s H) body tb)
  (e1:Hz f=some (.frz (kla_obj "<lambda>" q params body scope cl pm c ctv) (.own f))) (e2:Hz c=some (.frz oc (.own P0))) (e3:oc.data=.fields vs) (e4:vs[1]?=some (.str q t))
  (inj:∀x y a,cl.lookup x=some a->cl.lookup y=some a->x=y) (hfr:∀y∈scope.names,y.2=.free->∃a,cl.lookup y.1=some a) (hin:∀x a,cl.lookup x=some a->a∈cs) (hcs:CellsIn cs Hz)
  (hv:∀(i:Nat) (x:Str) (v:V) (a:Addr),fr[i]?=some x->vals[i]?=some (some v)->cl.lookup x=some a->∃u o,RelV v u/\Hz a=some (.frz o (.own a))/\o.data=.cell (some u)) (hl:vals.length=fr.length) :
  FnV P w K mg base (k+1) f (Zom Hz cs vals tb):=by
 intro A outer s H u v Q hr E r ⟨hz,h⟩
 have hfo:=(E.hok f _ (hz _ _ _ e1)).1
 have hoc:=(E.hok c _ (hz _ _ _ e2)).1
 have hcs':CellsIn cs H:=λb hb=>by
  obtain⟨o,v,z1,z2⟩:=hcs b hb
  exact⟨o,v,hz _ _ _ z1,z2⟩
 refine kla_callFunE hr.depth hfo rfl S.co S.gen rfl ⟨c,oc,vs,t,rfl,hoc,e3,e4⟩ ?_
 show wpAny _ _ (bindArgs (kla_fn "<lambda>" q params body scope cl pm (.ref c) ctv) ⟨[u],[]⟩) _ _ _
 rw[S.bd]
 refine Yc (wpAny_newFunctionEnv (λx hx=>S.cell x hx) (λx hx=>?_) (λh₁ hns hsb=>⟨(E.mod.nolimit.keeps λb o z=>(E.bs b o z).1).fresh _ hsb,?_⟩) S.kind)
 ·have:x=(pn,u):=by simpa using hx
  subst this;exact S.pl
 show codeAny _ _ (.expr body (envX q scope s.heap.objs.size f (.ref c) cl)) _ _
 have old:∀b o,s.heap.get? b=some o->h₁.get? b=some o:=λb o e=>hsb.extBut b o (Yp (Yh e)) (Yn _ e)
 have lt0:∀b u,H b=some u->b<s.heap.objs.size:=λb u z=>E.hok.lt z
 have kf:∀x,((envX q scope s.heap.objs.size f (.ref c) cl).kindOf x=some .cell\/(envX q scope s.heap.objs.size f (.ref c) cl).kindOf x=some .free)->∃c,cl.lookup x=some c:=λx hx=>by
  rcases hx with z|z
  ·exact absurd rfl (S.cell _ (lookup_mem (show scope.names.lookup x=some .cell from z)))
  ·exact hfr _ (lookup_mem (show scope.names.lookup x=some .free from z)) rfl
 have noA:∀b:Addr,b∉(Zec P w K mg base A outer (pn::fr) q scope cl s.heap.objs.size f c s (Zdm cs H)).ex:=λb z=>absurd (show b∈([]:List Addr)from z) (by simp)
 have offN:∀b,H b=none->Zdm cs H b=none:=λb z=>by
  unfold Zdm;split
  ·rfl
  ·exact z
 have J:Inv (Zec P w K mg base A outer (pn::fr) q scope cl s.heap.objs.size f c s (Zdm cs H)) [] (some v::vals) (Zdm cs H) {s with heap:=h₁,toks:=s.toks+[(pn,u)].length}:=by
  refine⟨⟨E.mod,S.kind,rfl,rfl,Ye _,inj,(λx hx=>kf x hx),(λx c e=>nomatch e),(λ_=>hr.hd),Around.frames_deeper E.frames,.inr ⟨rfl,rfl⟩,λb z=>absurd z (noA b),λb o z=>⟨(E.bs b o z).1,offN _ (E.bs b o z).2⟩,E.bsz,λb _ _=>noA b,λb z=>absurd z (noA b),E.funs,λb hb=>offN _ (E.frf b hb)⟩,
   rfl,E.bare,Un.kept old,⟨_,hns,λi x v' z1 z2 z3=>?_⟩,λx c z=>?_,offN _ (E.hok.fresh (Ye _)),λx c z=>ZeF (hin x c z),λp hp=>absurd (show p∈([]:List (Addr×Obj))from hp) (by simp),E.hok.Zdm hcs' old,?_⟩
  ·cases i with
   |zero =>
    have ex:pn=x:=Yo z1
    have ev:v=v':=Yo (Yo z2)
    subst ex ev
    exact⟨u,r,.inl ⟨S.pl,by simp⟩⟩
   |succ i =>
    have z1':fr[i]?=some x:=z1
    have z2':vals[i]?=some (some v'):=z2
    have hm:=S.frs x (List.mem_of_getElem? z1')
    obtain⟨a,ha⟩:=hfr _ (lookup_mem hm) rfl
    obtain⟨u',o,r',y1,y2⟩:=hv i x v' a z1' z2' ha
    exact⟨u',r',.inr ⟨.inr hm,a,ha,o,old _ _ (E.hok a _ (hz _ _ _ y1)).1,y2⟩⟩
  ·obtain⟨o,v,y1,y2⟩:=hcs' c (hin x c z)
   exact⟨v,o,old _ _ (E.hok c _ y1).1,y2⟩
  ·show vals.length+1=fr.length+1
   rw[hl]
 refine kla_codeExpr (YG (hbody A outer cl _ f c s _ (hr.deeper _) [] _ _ _ _ J h) (λv' s' ⟨x,H',J',r',q'⟩=>⟨v',rfl,x,onC cs H H',J'.os,J'.bare,?_,?_,r',q' λb hb=>?_⟩) λ_ _ z=>z.elim)
 ·have ub:Un (frs outer) [] (Zdm cs H) H' s.heap s'.heap:=J'.base
  have inH:∀b∈cs,∃o,H b=some (.frz o (.own b)):=λb hb=>by obtain⟨o,_,z,_⟩:=hcs' b hb;exact⟨o,z⟩
  refine⟨λb o z n hb hx=>ub.keep b o z (offN b n) hb hx,λb o z n hb hx=>ub.slot b o z (offN b n) hb hx,λb o z n hx=>?_,ub.there,λb xs z=>?_,λb o u z=>?_,λb ps z=>?_⟩
  ·rw[ZcR (λhb=>by obtain⟨o,y⟩:=inH b hb;rw[n]at y;cases y)]
   exact ub.free b o z (offN b n) hx
  ·have n:=hcs'.out z λ_ _ y _=>nomatch y
   rw[ZcR n]
   exact ub.tups b xs (by rw[Z7 n];exact z)
  ·by_cases hb:b∈cs
   ·rw[ZkG hb];exact z
   ·rw[ZcR hb]
    exact ub.frzs b o u (by rw[Z7 hb];exact z)
  ·have n:=hcs'.out z λ_ _ y _=>nomatch y
   rw[ZcR n]
   exact ub.tbls b ps (by rw[Z7 n];exact z)
 ·have ub:Un (frs outer) [] (Zdm cs H) H' s.heap s'.heap:=J'.base
  have hn:∀b∈cs,H' b=none:=λb hb=>by
   obtain⟨o,_,z,_⟩:=hcs' b hb
   exact ub.free b o (E.hok b _ z).1 (ZeF hb) (by simp)
  refine J'.hok.onC hn λb hb=>?_
  obtain⟨o,_,z,_⟩:=hcs' b hb
  exact⟨o,z,ub.keep b o (E.hok b _ z).1 (ZeF hb) (λy=>by rw[E.frf b y]at z;cases z) (by simp)⟩
 ·have ub:Un (frs outer) [] (Zdm cs H) H' s.heap s'.heap:=J'.base
  obtain⟨o,_,z,_⟩:=hcs' b hb
  exact ub.free b o (E.hok b _ z).1 (ZeF hb) (by simp)
theorem ZjP {cs:List Addr}{H H':Hp} (s:Zg (Zdm cs H) H'):Zg H (onC cs H H'):=λb o z=>by
 by_cases hb:b∈cs
 ·rw[ZkG hb];exact z
 ·rw[ZcR hb];exact s _ _ (by rw[Z7 hb];exact z)
theorem onC_at {cs:List Addr}{H H':Hp}{b:Addr}{o:HO} (h:∀b∈cs,H' b=none) (z:H' b=some o):onC cs H H' b=some o:=by
 rw[ZcR (λhb=>by rw[h b hb]at z;cases z)];exact z
theorem Zon {x:Str}{a:Addr}:∀{cl:List (Str×Addr)},cl.lookup x=some a->(x,a)∈cl
 |[],h=>nomatch h
 |(y,b)::r,h=>by
  by_cases e:x=y
  ·subst e
   rw[List.lookup_cons_self]at h
   rw[Yo h];exact YX
  ·rw[List.lookup_cons,show(x==y)=false from by simpa using e]at h
   exact YR _ (Zon h)
structure Lent (cs:List Addr) (H1 H2:Hp):Prop where
 out:∀b,b∉cs->H2 b=H1 b
 was:∀b∈cs,H1 b=none
 is:CellsIn cs H2
theorem Lent.same {cs:List Addr}{H1 H2:Hp} (L:Lent cs H1 H2):Zg H1 H2:=λb o z=>by
 rw[L.out b (λhb=>by rw[L.was b hb]at z;cases z)];exact z
theorem Lent.back {cs:List Addr}{H1 H2 H3:Hp} (L:Lent cs H1 H2) (s:Zg H2 H3):Zg H1 (Zdm cs H3):=λb o z=>by
 rw[Z7 (λhb=>by rw[L.was b hb]at z;cases z)];exact s _ _ (L.same _ _ z)
theorem Lent.tup {cs:List Addr}{H1 H2 H3:Hp} (L:Lent cs H1 H2) (s:Zg H2 H3) {t:Addr}{xs:List V} (z:H3 t=some (.tup xs)):Zdm cs H3 t=some (.tup xs):=by
 rw[Z7 (λhb=>by
  obtain⟨o,v,e,_⟩:=L.is t hb
  rw[s _ _ e]at z;cases z)];exact z
noncomputable def ZkI (js:List Nat) (σ:St):St:=js.map λj=>(σ[j]?).join
noncomputable def ZiW (P:Program) (w:World) (K:Frag) (mg:Str->Option Value) (base:Heap) (k:Nat) (env:Env) (P0:Addr) (q:Str) (params:Arguments) (body:Expr) (scope:Scope) (js:List Nat) (tb:TE) (sp:Sp) (E:XK) (t:TA):TE:=fun σ H Q=>t σ H λvs H1=>∃f,vs.getLast?=some (.ref f)/\LamO env P0 q params body scope H1 f /\
 ∀(cs:List Addr) (H2:Hp),Lent cs H1 H2->ZjN H2 f->FnV P w K mg base (k+1) f (Zom H2 cs (ZkI js σ) tb)->sp vs H2 (λx H3=>Q x (Zdm cs H3)) E
section
variable {X:Cx}
theorem Zoo {k m:Nat}{x q pn:Str}{f0:Addr}{fd:FuncData}{ps fr:List Str}{js:List Nat}{params:Arguments}{body:Expr}{scope:Scope}{P0:Addr}{tb:TE}{sp:Sp}{t:TA}{p pos:Pos}{e:Expr}{es:List Expr}
  (S:LamSF fr params body scope pn) (hok:compOk X.env.scope scope=true) (hjs:js.map (X.N[·]?)=fr.map some) (hfn:∀x,X.fn x=true)
  (hbody:∀(A':Around) (outer:List Env) (cl:List (Str×Addr)) (L f c:Addr) (s:Shared) (H:Hp),Room k (Zec X.prog X.w X.K X.mg X.base A' outer (pn::fr) q scope cl L f c s H).A->PE (Zec X.prog X.w X.K X.mg X.base A' outer (pn::fr) q scope cl L f c s H) body tb)
  (F:FnOk X.prog X.w X.K X.mg X.base (CXE X.prog X.w) m f0 fd ps sp) (hr:Room m X.A) (hg:Gl X x) (hm:X.mg x=some (.ref f0)) (hk:PySem.W.keepIn X.K (.ref f0)=true) (hb:Binds X.K fd ps [])
  (ha:PA X (e::es) t) (hdb:(x==("__debug__":Str))=false:=by decide) (he:starEach (e::es) X.env=(false,eval e X.env)::starEach es X.env:=by rfl) (hpl:(backTo pos (starEach es X.env)).any (·.1)=false:=by rfl) :
  PE X (.Call (.Name x p) (e::es) [] pos) (ZiW X.prog X.w X.K X.mg X.base k X.env P0 q params body scope js tb sp E0 t):=by
 intro pins s σ H Q I h
 refine wpAny_Call_Name_kw (Zir I hg hm ?_ hdb)
 refine PySem.W.callWith_K (h₀:=X.base) I.ok.mod.kin hk (thn (ha pos pins s σ H _ I h) λus s1 ⟨vs,H1,I1,r,f,ef,L,hsp⟩=>⟨I1.kIn,?_⟩) he hpl
 obtain⟨c,oc,vv,tk,cl,pm,ctv,e1,e2,e3,e4,up,hfr⟩:=L
 let cs:List Addr:=(cl.map (·.2)).filter λa=>@decide (∃x,cl.lookup x=some a) (Classical.propDecidable _)
 have mcs:∀a,a∈cs↔∃x,cl.lookup x=some a:=λa=>by
  show a∈List.filter _ _↔_
  rw[YH,@decide_eq_true_iff _ (Classical.propDecidable _)]
  refine⟨λz=>z.2,λz=>⟨?_,z⟩⟩
  obtain⟨x,hx⟩:=z
  exact YQ.mpr ⟨(x,a),Zon hx,rfl⟩
 have cIn:∀a∈cs,∃o v,s1.heap.get? a=some o/\o.data=.cell v/\H1 a=none/\X.s₀.heap.objs.size<=a:=λa ha=>by
  obtain⟨x,hx⟩:=(mcs a).mp ha
  obtain⟨v,o,z1,z2⟩:=I1.cell x a (up _ _ hx)
  exact⟨o,v,z1,z2,I1.freeC x a (up _ _ hx),I1.ok.cab x a (hfn x) (up _ _ hx)⟩
 let H2:Hp:=λb=>if b∈cs then (s1.heap.get? b).map (λo=>.frz o (.own b))else H1 b
 have h2in:∀b∈cs,∀o,s1.heap.get? b=some o->H2 b=some (.frz o (.own b)):=λb hb o z=>by
  show(if b∈cs then _ else _)=_
  rw[Yd hb,z];rfl
 have h2out:∀b,b∉cs->H2 b=H1 b:=λb hb=>Yb hb
 have LT:Lent cs H1 H2:=⟨h2out,λb hb=>(cIn b hb).choose_spec.choose_spec.2.2.1,λb hb=>by
  obtain⟨o,v,z1,z2,_⟩:=cIn b hb
  exact⟨o,v,h2in b hb o z1,z2⟩⟩
 have up2:=LT.same
 have hok2:HOk X.prog X.w H2 s1.heap:=λa o z=>by
  by_cases ha:a∈cs
  ·obtain⟨ob,v,z1,_⟩:=cIn a ha
   rw[h2in a ha ob z1]at z;cases z
   exact⟨z1,ob,z1⟩
  ·rw[h2out a ha]at z
   exact(I1.hok a o z).Zgp (λ_ _ _ q=>q) (λb q=>up2 _ _ q) (λb xs q=>up2 _ _ q) λb ob u q=>up2 _ _ q
 have E1:=I1.env0
 have nfs:∀b∈frs X.stack,b∉cs:=λb hb hc=>by
  obtain⟨o,v,z1,z2,_,z4⟩:=cIn b hc
  obtain⟨x,hx⟩:=(mcs b).mp hc
  rcases Yk.mp (I1.ZeS b hb)with z|z
  ·exact I1.cne x b (up _ _ hx) z
  ·obtain⟨_,o',ho',_⟩:=I1.ok.funs.mem z
   exact absurd (Ym (Yh ho') z4) (Yu _)
 have E2:Env0 X.prog X.w X.K X.mg X.base X.A X.stack s1 H2:=by
  refine⟨E1.frames,E1.mod,λb o z=>⟨(E1.bs b o z).1,?_⟩,E1.bsz,E1.funs,λb hb=>?_,hok2,E1.bare⟩
  ·rw[h2out b (λhc=>by
    obtain⟨_,_,_,_,_,z4⟩:=cIn b hc
    exact absurd (Ym (Yh z) (Yj I1.ok.bsz z4)) (Yu _))]
   exact(E1.bs b o z).2
  ·rw[h2out b (nfs b hb)];exact E1.frf b hb
 have hV:FnV X.prog X.w X.K X.mg X.base (k+1) f (Zom H2 cs (ZkI js σ) tb):=by
  refine ZpM (vals:=ZkI js σ) S hbody (up2 _ _ e1) (up2 _ _ e2) e3 e4 (λx y a z1 z2=>I1.ok.inj x y a (up _ _ z1) (up _ _ z2)) (λy hy hf=>let ⟨c,z,_⟩:=hfr y hy hf;⟨c,z⟩) (λx a z=>(mcs a).mpr ⟨x,z⟩) LT.is ?hv ?hl
  case hl =>
   have:=congrArg List.length hjs
   simpa[ZkI]using this
  case hv =>
   intro i x v a z1 z2 z3
   have hj:(js.map (X.N[·]?))[i]?=some (some x):=by rw[hjs,Yw,z1];rfl
   rw[Yw]at hj
   cases hji:js[i]? with
   |none=>rw[hji]at hj;cases hj
   |some j =>
    rw[hji]at hj
    have hN:X.N[j]?=some x:=Yo hj
    unfold ZkI at z2
    rw[Yw,hji]at z2
    have hσ:(σ[j]?).join=some v:=Yo z2
    have hσ2:σ[j]?=some (some v):=by
     cases w:σ[j]? with
     |none=>rw[w]at hσ;cases hσ
     |some o=>rw[w]at hσ;rw[show o=some v from hσ]
    have hm:=lookup_mem (S.frs x (List.mem_of_getElem? z1))
    have hkd:=Zgb hok _ hm rfl
    obtain⟨m0,hn0,hl0⟩:=I1.loc
    obtain⟨u',r',l⟩:=hl0 j x v hN hσ2 (hkd.elim (λz=>.inr (.inl z)) λz=>.inr (.inr z))
    obtain⟨c2,y1,y2⟩:=hfr _ hm rfl
    rw[y1]at z3;cases z3
    rcases l with⟨lk,_⟩|⟨_,c',c3,oc',w1,w2⟩
    ·rcases hkd with z|z
     ·rw[show X.env.kindOf x=some .cell from z]at lk;cases lk
     ·rw[show X.env.kindOf x=some .free from z]at lk;cases lk
    ·rw[y2]at c3;cases c3
     exact⟨u',oc',r',h2in _ ((mcs _).mpr ⟨x,y1⟩) oc' w1,w2⟩
 have h2:=hsp cs H2 LT ⟨_,_,_,_,_,up2 _ _ e1⟩ hV
 have hl:(us++[]).length=ps.length:=by
  rw[List.append_nil,<-r.length]
  exact F.len _ _ _ _ h2
 have hb1:=hb s1 us I1.kIn hl
 rw[List.append_nil]at hb1
 refine wpAny_call (codeAny_mono (F.run X.A X.stack s1 H2 ⟨us,[]⟩ us vs _ E0 hr E2 hb1 r h2) λr s' hq=>?_)
 cases r with
 |error e =>
  obtain⟨_,_,_,_,_,_,_,z⟩:=hq
  exact z.elim
 |ok fl =>
  cases fl with
  |next=>exact False.elim hq
  |brk=>exact False.elim hq
  |cont=>exact False.elim hq
  |ret u =>
   obtain⟨v,H3,os,bare,un,hok3,rv,q⟩:=hq
   have c3:CellsIn cs H3:=λb hb=>by
    obtain⟨o,v,z1,z2⟩:=LT.is b hb
    exact⟨o,v,un.frzs _ _ _ z1,z2⟩
   have nc:∀b o,H1 b=some o->b∉cs:=λb o z hc=>by rw[LT.was b hc]at z;cases z
   refine⟨v,Zdm cs H3,I1.call' (ch:=[]) os ⟨λb o z n hb hx=>?_,λb o z n hb hx=>un.slot b o z (by rw[h2out b (nfs b hb)];exact n) hb hx,λb o z n hx=>?_,un.there,λb xs z=>?_,λb o u z=>?_,λb ps z=>?_⟩ (hok3.Zdm c3 λ_ _ z=>z) bare (λb z=>absurd z (by simp)),rv,q⟩
   ·by_cases hc:b∈cs
    ·obtain⟨o',v',z1,z2,_⟩:=cIn b hc
     rw[z1]at z;cases z
     exact(hok3 b _ (un.frzs _ _ _ (h2in b hc _ z1))).1
    ·exact un.keep b o z (by rw[h2out b hc];exact n) hb hx
   ·by_cases hc:b∈cs
    ·exact ZeF hc
    ·rw[Z7 hc]
     exact un.free b o z (by rw[h2out b hc];exact n) hx
   ·rw[Z7 (nc b _ z)]
    exact un.tups b xs (by rw[h2out b (nc b _ z)];exact z)
   ·rw[Z7 (nc b _ z)]
    exact un.frzs b o u (by rw[h2out b (nc b _ z)];exact z)
   ·rw[Z7 (nc b _ z)]
    exact un.tbls b ps (by rw[h2out b (nc b _ z)];exact z)
structure LamSL (X:Cx) (fr:List Str) (js:List Nat) (params:Arguments) (body:Expr) (scope:Scope) (pn:Str):Prop where
 ok:compOk X.env.scope scope=true
 js:js.map (X.N[·]?)=fr.map some
 frs:(fr.all λx=>scope.names.lookup x==some .free)=true
 pl:scope.names.lookup pn=some .local
 co:scope.isCoroutine=false
 gen:scope.isGenerator=false
 bd:∀(q:Str) (cl:List (Str×Addr)) (pm cd ctv u:Value),bindArgs (kla_fn "<lambda>" q params body scope cl pm cd ctv) ⟨[u],[]⟩=pure [(pn,u)]
 fn:∀x,X.fn x=true
theorem Zig {k m:Nat}{x q pn:Str}{ps fr:List Str}{js:List Nat}{params:Arguments}{body:Expr}{scope:Scope}{lpos:Pos}{P0:Addr}{tb:TE}{sp:Sp}{t:TA}{p pos:Pos}{e:Expr}
  (S:LamSL X fr js params body scope pn)
  (hbody:∀(A':Around) (outer:List Env) (cl:List (Str×Addr)) (L f c:Addr) (s:Shared) (H:Hp),Room k (Zec X.prog X.w X.K X.mg X.base A' outer (pn::fr) q scope cl L f c s H).A->PE (Zec X.prog X.w X.K X.mg X.base A' outer (pn::fr) q scope cl L f c s H) body tb)
  (C:Callee X.prog X.w X.K X.mg X.base x m ps sp) (hr:Room m X.A) (hg:Gl X x) (ha:PA X [e,.Lambda params body scope lpos] t) (hdb:(x==("__debug__":Str))=false:=by decide)
  (he:starEach [e,.Lambda params body scope lpos] X.env=(false,eval e X.env)::starEach [.Lambda params body scope lpos] X.env:=by rfl) (hpl:(backTo pos (starEach [.Lambda params body scope lpos] X.env)).any (·.1)=false:=by rfl) :
  PE X (.Call (.Name x p) [e,.Lambda params body scope lpos] [] pos) (ZiW X.prog X.w X.K X.mg X.base k X.env P0 q params body scope js tb sp E0 t):=by
 obtain⟨f,fd,hm,hk,hb,F⟩:=C
 exact Zoo (fr:=fr) (pn:=pn) ⟨λy hy=>Zjl S.ok y hy,Zjk S.ok,λx hx=>beq_iff_eq.mp (List.all_eq_true.mp S.frs x hx),S.pl,S.co,S.gen,S.bd⟩ S.ok S.js S.fn hbody F hr hg hm hk hb ha hdb he hpl
end
end L2
namespace K47
open PySem PySem.Spec PyProof.Rows L2
open PySem.W (nsIn mg_of fnOf keepIn codeIn mg_none_of)
local macro_rules | `(tactic| walk_at "rd") => `(tactic| simp only [tIfS, tNot, tTest, tChain, rI0, rI, rU, tVar, tC, tB, tIf, tAndV, tNotV, tCall, tCons, tNil, tAsg, tSeq, tRet, tNext, tOp, tUn, tAnd, tOr, tDrop, gName, gSub, tAug, tCB, tSl, tRaise, tLst, tTup, L2.start, tYes, gTup, gCons, gNil, iniC, Option.join_some, Option.join_none, rEq, rNe, ZiL, Zlk, Zll, Zlm, Zln, Zlo, tBM, Bool.true_eq_false, YC, List.map_nil, List.cons_append, List.nil_append, YK, List.length_nil, List.replicate, List.append_nil, List.set_cons_zero, List.set_cons_succ, List.getElem?_cons_zero, List.getElem?_cons_succ, Option.some.injEq, V.int.injEq, V.bl.injEq, V.ref.injEq, List.cons.injEq, and_true, true_and, exists_eq_left, exists_eq_left', exists_and_left, exists_eq, decide_eq_true_eq, Bool.not_eq_true', decide_eq_false_iff_not, cxK, and_assoc, Bool.false_eq_true, ↓reduceIte, Zli, Zh2, Zjp, iRng1, iRng2, iList, iTup, rIxL, rIxT, rSetL, rCat, rIsi, tDelT, tPar, rInsert, rIndex, rLen, rLof, rTof, rIsiS, rEqD, iEnum, rInD, tMaxD, tMinD, rOr, rAll, rIxQ, rSlL, tPart, tNoPart, tSl, ipI, rAppend, rRep, Zlp, ZnW, V.str.injEq, tDGet, tDIn, rCatU, rCatK, tDNewT, tDSetD, tDVals, rLVals, tLam, rEqN, rIsiS, rIndexD, ZkH, ZiW])
noncomputable def top (i:Nat):Stmt:=PySem.Challenge.pw_dipkin_k47_the_longest_told.main.body.getD i (.Pass ⟨0,0,0,0⟩)
noncomputable abbrev Zac:Stmt:=top 4
noncomputable abbrev s_settle:Stmt:=top 6
noncomputable abbrev s_tree_of:Stmt:=top 7
noncomputable abbrev s_way_up:Stmt:=top 8
noncomputable abbrev s_fences_of:Stmt:=top 9
noncomputable abbrev ZW:Stmt:=top 11
noncomputable abbrev ZX:Stmt:=top 13
noncomputable abbrev Zaq:Stmt:=top 14
noncomputable abbrev Zad:Stmt:=top 16
noncomputable abbrev Zbf:Stmt:=top 17
noncomputable abbrev ZbA:Stmt:=top 18
noncomputable abbrev Zcw:Stmt:=top 19
noncomputable abbrev Zcx:Stmt:=top 20
noncomputable abbrev ZY:Stmt:=top 21
noncomputable abbrev Zae:Stmt:=top 22
noncomputable abbrev Zbg:Stmt:=top 24
noncomputable abbrev Zbh:Stmt:=top 25
noncomputable abbrev ZaC:Stmt:=top 26
noncomputable abbrev ZbB:Stmt:=top 27
noncomputable abbrev ZaD:Stmt:=top 28
noncomputable abbrev s__law_tree:Stmt:=top 29
noncomputable abbrev Zar:Stmt:=top 30
noncomputable abbrev ZZ:Stmt:=top 31
noncomputable abbrev ZaE:Stmt:=top 32
noncomputable abbrev ZL:Stmt:=top 33
noncomputable abbrev ZM:Stmt:=top 34
noncomputable abbrev Z0:Stmt:=top 35
noncomputable abbrev Zas:Stmt:=top 36
noncomputable abbrev s_law:Stmt:=top 37
structure Txt (K:PySem.W.Frag) (mg:Str->Option Value):Prop where
 b_all:mg "all"=none
 b_bool:mg "bool"=none
 b_enumerate:mg "enumerate"=none
 b_int:mg "int"=none
 b_isinstance:mg "isinstance"=none
 b_len:mg "len"=none
 b_list:mg "list"=none
 b_max:mg "max"=none
 b_min:mg "min"=none
 b_range:mg "range"=none
 b_tuple:mg "tuple"=none
 c_DipError:mg "DipError"=some (.ref (clsAt mg "DipError"))
 x_DipError:PySem.W.excIn K (clsAt mg "DipError") bmV newV=true
 c_Empty:mg "Empty"=some (.ref (clsAt mg "Empty"))
 x_Empty:PySem.W.excIn K (clsAt mg "Empty") bmV newV=true
noncomputable def tabsL (K:PySem.W.Frag) (mg:Str->Option Value):List (Addr×Str):=[(Zg2 K mg "longest_twice",ZjL "longest_twice"),(Zg2 K mg "longest_both",ZjL "longest_both")]
noncomputable abbrev SpT:=PySem.W.Frag->(Str->Option Value)->Sp
noncomputable def spLaw (K:PySem.W.Frag) (mg:Str->Option Value):Sp:=λvs H Q E=>∃(a:Addr) (ns:List Int),vs=[.ref a]/\SqL K H a (ns.map V.int)/\ns.length<=63/\(∀p∈tabsL K mg,H p.1=some (Zg3 p.2))/\∀H',Q (.bl true) H'
noncomputable def Zc4:SpT:=λK mg vs H Q E=>∃i:Int,vs=[.int i]/\Q (.bl true) H
noncomputable def Zao:SpT:=λK mg vs H Q E=>∃(r:Addr) (ns:List Int) (k:Int),vs=[.ref r,.int k]/\(SqL K H r (ns.map V.int)\/SqT K H r (ns.map V.int))/\ns.length<=1000/\0<=k/\k<=1000/\(k<=ns.length->Q .non H)/\((ns.length:Int)<k->E (.ref (clsAt mg "Empty")) none H)
noncomputable def Zdv:SpT:=λK mg vs H Q E=>∃(a:Addr) (ns:List Int) (k:Int),vs=[.ref a,.int k]/\SqL K H a (ns.map V.int)/\0<=k/\k<=100/\∀p H',H p=none->Zg H H'->Zz H' p->Q (.ref p) H'
noncomputable def ZaF:SpT:=λK mg vs H Q E=>∃(p:Addr) (many:Int),vs=[.ref p,.int many]/\0<many/\many<=1000000001/\Zz H p/\∀d H',0<=d->d<many->Zz H' p->Exc p H H'->Q (.int d) H'
noncomputable def sp__law_row:SpT:=λK mg vs H Q E=>∃(p:Addr) (most:Int),vs=[.ref p,.int most]/\0<=most/\most<=1000/\Zz H p/\∀(r:Addr) (ns:List Int) H',H r=none->(ns.length:Int)<=most->H' r=some (.lst (ns.map V.int))->Zz H' p->Exc p H H'->Q (.ref r) H'
noncomputable def Zc5:SpT:=λK mg vs H Q E=>∃(r:Addr) (ns:List Int) (i:Nat),vs=[.ref r,.int (i:Int)]/\H r=some (.lst (ns.map V.int))/\ns.length<=1000/\i<ns.length/\∀(e:Int) H',ZK (nth ns) ns.length i e->Zg H H'->Q (.int e) H'
noncomputable def sp__law_tree:SpT:=λK mg vs H Q E=>∃(r:Addr) (ns:List Int),vs=[.ref r]/\H r=some (.lst (ns.map V.int))/\ns.length<=1000/\∀(t:Addr) (es:List Int) H',ZG ns es->Zg H H'->H' t=some (.tup (es.map V.int))->Q (.ref t) H'
noncomputable def sp_settle:SpT:=λK mg vs H Q E=>∃(el sp:Addr) (es:List Int) (A B:List Nat) (i:Nat),vs=[.ref el,.ref sp,.int i,.int A.length]/\H el=some (.lst (es.map V.int))/\H sp=some (.lst (Zy (A++B)))/\el≠sp/\i<es.length/\(∀q∈A++B,q<es.length)/\(A++B).length<=1000 /\
 ∀H',(∀b o,b≠el->b≠sp->H b=some o->H' b=some o)->H' el=some (.lst ((Zgs es A B i).map V.int))->H' sp=some (.lst (Zy (A++[i])))->Q .non H'
noncomputable def sp_tree_of:SpT:=λK mg vs H Q E=>∃(r:Addr) (ns:List Int),vs=[.ref r]/\(SqL K H r (ns.map V.int)\/SqT K H r (ns.map V.int))/\ns.length<=1000/\∀(t:Addr) (es:List Int) H',ZG ns es->Zg H H'->H' t=some (.tup (es.map V.int))->Q (.ref t) H'
noncomputable def sp_way_up:SpT:=λK mg vs H Q E=>∃(t:Addr) (T:List Int) (p:Nat),vs=[.ref t,.int p]/\H t=some (.tup (T.map V.int))/\T.length<=1000/\p<T.length/\∀(w:Addr) H',H w=none->Zg H H'->H' w=some (.lst ((wayI T p).map V.int))->Q (.ref w) H'
noncomputable def sp_fences_of:SpT:=λK mg vs H Q E=>∃(t:Addr) (ns T:List Int),vs=[.ref t]/\H t=some (.tup (T.map V.int))/\ZG ns T/\ns.length<=1000/\∀(l:Addr) H',Zg H H'->ZaR H' l ns.length (λp=>(Zeb (nth ns) p,Zfm (nth ns) ns.length p))->Q (.ref l) H'
noncomputable def ZbC:SpT:=λK mg vs H Q E=>∃(t:Addr) (ns T:List Int),vs=[.ref t]/\H t=some (.tup (T.map V.int))/\ZG ns T/\ns.length<=1000/\∀(l:Addr) H',H l=none->Zg H H'->H' l=some (.lst ((Zcn ns).map V.int))->Q (.ref l) H'
noncomputable def ZaG:SpT:=λK mg vs H Q E=>∃(r:Addr) (ns:List Int),vs=[.ref r]/\(SqL K H r (ns.map V.int)\/SqT K H r (ns.map V.int))/\ns.length<=1000/\∀(l:Addr) H',H l=none->Zg H H'->H' l=some (.lst ((Zcn ns).map V.int))->Q (.ref l) H'
noncomputable def ZcC:SpT:=λK mg vs H Q E=>∃(d:Int) (k:Nat),vs=[.int d,.int k]/\Q (.int (sw d k)) H
noncomputable def ZcD:SpT:=λK mg vs H Q E=>∃(p r:Addr) (ns:List Int),vs=[.ref p,.ref r]/\Zz H p/\r≠p/\H r=some (.lst (ns.map V.int))/\ns.length<=1000/\∀(u:Addr) H',H u=none->(H' u=some (.lst (ns.map V.int))\/H' u=some (.tup (ns.map V.int)))->Zz H' p->Exc p H H'->Q (.ref u) H'
noncomputable def ZC (ns:List Int) (c a:Nat):List Int:=(List.range c).map λi=>sw (ZP (nth ns) (a+i)) i
noncomputable def Zk (n c:Nat):Nat:=n+1-c
noncomputable def Zl (ns:List Int) (c:Nat):Nat->Nat->Bool:=λa b=>decide (ZC ns c a=ZC ns c b)
noncomputable def Zcq (ns:List Int) (c:Nat):List (List Nat):=(Zi (Zl ns c) (Zk ns.length c)).map (Zc3 (Zl ns c) (Zk ns.length c))
noncomputable def ZpN (H0 H:Hp) (l:Addr) (rs:List (List Nat)):Prop:=∃as:List Addr,H l=some (.lst (as.map V.ref))/\as.Nodup/\l∉as/\as.length=rs.length/\(∀i (h1:i<as.length) (h2:i<rs.length),H as[i]=some (.lst (Zy rs[i])))/\H0 l=none/\∀a∈as,H0 a=none
noncomputable def Zop (H:Hp) (l:Addr) (m:Nat) (f:Nat->List Int):Prop:=∃as:List Addr,H l=some (.lst (as.map V.ref))/\as.length=m/\∀i (h:i<as.length),H as[i]=some (.tup ((f i).map V.int))
noncomputable def ZaS:SpT:=λK mg vs H Q E=>∃(l:Addr) (ns:List Int) (c:Nat),vs=[.ref l,.int (c:Int)]/\H l=some (.lst ((Zcn ns).map V.int))/\ns.length<=1000/\1<=c/\c<=2000/\∀(q:Addr) H',H q=none->Zg H H'->Zop H' q (Zk ns.length c) (ZC ns c)->Q (.ref q) H'
noncomputable def Zdw:SpT:=λK mg vs H Q E=>∃(l:Addr) (ns:List Int) (c:Nat),vs=[.ref l,.int (c:Int)]/\H l=some (.lst ((Zcn ns).map V.int))/\ns.length<=1000/\1<=c/\c<=2000/\∀(q:Addr) H',Zg H H'->ZpN H H' q (Zcq ns c)->Q (.ref q) H'
noncomputable def ZaH:SpT:=λK mg vs H Q E=>∃p:Addr,vs=[.ref p]/\Zz H p/\∀(r:Addr) (ns:List Int) H',H r=none->ns.length<=40->H' r=some (.lst (ns.map V.int))->Zz H' p->Exc p H H'->Q (.ref r) H'
noncomputable def ZbM:SpT:=λK mg vs H Q E=>∃(r:Addr) (ns:List Int) (c:Nat),vs=[.ref r,.int (c:Int)]/\H r=some (.lst (ns.map V.int))/\ns.length<=1000/\1<=c/\c<=2000/\∀(q:Addr) (T:Nat->List Int) H',H q=none->Zg H H'->(∀i,i<Zk ns.length c->ZG (ZdY ns i c) (T i))->Zop H' q (Zk ns.length c) T->Q (.ref q) H'
noncomputable def ZiX (E:Nat->Nat->Bool) (m:Nat):Option (Nat×Nat)->Prop
 |none=>∀a b,a<b->b<m->E a b=false
 |some (a,b)=>a<b/\b<m/\E a b=true/\(∀x y,x<y->y<m->E x y=true->a<=x)/\∀y,a<y->y<m->E a y=true->b<=y
noncomputable def ZjQ (E:Nat->Nat->Bool) (m1 m2:Nat):Option (Nat×Nat)->Prop
 |none=>∀a b,a<m1->b<m2->E a b=false
 |some (a,b)=>a<m1/\b<m2/\E a b=true/\(∀x y,x<m1->y<m2->E x y=true->a<=x)/\∀y,y<m2->E a y=true->b<=y
noncomputable def ZkJ (H:Hp) (y:V):Option (Nat×Nat)->Prop
 |none=>y=.non
 |some (a,b)=>∃t,y=.ref t/\H t=some (.tup [.int (a:Int),.int (b:Int)])
noncomputable def ZbZ (ns ms:List Int) (c:Nat):Nat->Nat->Bool:=λa b=>decide (ZC ns c a=ZC ms c b)
noncomputable def Zed:SpT:=λK mg vs H Q E=>∃(l:Addr) (ns:List Int) (c:Nat),vs=[.ref l,.int (c:Int)]/\H l=some (.lst ((Zcn ns).map V.int))/\ns.length<=1000/\1<=c/\c<=2000/\∀(y:V) (o:Option (Nat×Nat)) H',ZiX (Zl ns c) (Zk ns.length c) o->ZkJ H' y o->Zg H H'->Q y H'
noncomputable def Ze4:SpT:=λK mg vs H Q E=>∃(l1 l2:Addr) (ns ms:List Int) (c:Nat),vs=[.ref l1,.ref l2,.int (c:Int)]/\H l1=some (.lst ((Zcn ns).map V.int))/\H l2=some (.lst ((Zcn ms).map V.int))/\ns.length<=1000/\ms.length<=1000/\1<=c/\c<=2000/\∀(y:V) (o:Option (Nat×Nat)) H',ZjQ (ZbZ ns ms c) (Zk ns.length c) (Zk ms.length c) o->ZkJ H' y o->Zg H H'->Q y H'
noncomputable def Zdx (P:Program) (w:World) (K:PySem.W.Frag) (mg:Str->Option Value) (base:Heap):Sp:=λvs H Q E=>∃(f:Addr) (most:Nat) (sp:V->Hp->VK->Prop) (PrO:Nat->Option (Nat×Nat)->Prop),vs=[.int (most:Int),.ref f]/\ZjN H f/\FnV P w K mg base 7 f sp/\1<=most/\most<=1000/\(∀o,PrO 1 o->o≠none)/\(∀(n:Nat) (H1:Hp) (R:VK),1<=n->n<=most->Zg H H1->(∀y o H2,Zg H1 H2->PrO n o->ZkJ H2 y o->R y H2)->sp (.int (n:Int)) H1 R)/\∀(t:Addr) (c a b:Nat) H',Zg H H'->1<=c->c<=most->PrO c (some (a,b))->(c<most->PrO (c+1) none)->H' t=some (.tup [.int (c:Int),.int (a:Int),.int (b:Int)])->Q (.ref t) H'
noncomputable def Zg4 (ns:List Int) (c a b:Nat):Prop:=1<=c/\c<ns.length/\ZiX (Zl ns c) (Zk ns.length c) (some (a,b))/\ZiX (Zl ns (c+1)) (Zk ns.length (c+1)) none
noncomputable def Zih (ns ms:List Int) (c a b:Nat):Prop:=1<=c/\c<=ns.length/\c<=ms.length/\ZjQ (ZbZ ns ms c) (Zk ns.length c) (Zk ms.length c) (some (a,b))/\ZjQ (ZbZ ns ms (c+1)) (Zk ns.length (c+1)) (Zk ms.length (c+1)) none
noncomputable def ZbD:SpT:=λK mg vs H Q E=>∃(r:Addr) (ns:List Int),vs=[.ref r]/\(SqL K H r (ns.map V.int)\/SqT K H r (ns.map V.int))/\ns.length<=1000/\ZkF K mg "longest_twice" H/\(ns.length<2->E (.ref (clsAt mg "Empty")) none H)/\(2<=ns.length->∀(t:Addr) (c a b:Nat) H',Zg H H'->Zg4 ns c a b->H' t=some (.tup [.int (c:Int),.int (a:Int),.int (b:Int)])->Q (.ref t) H')
noncomputable def Zb0:SpT:=λK mg vs H Q E=>∃(r x:Addr) (ns ms:List Int),vs=[.ref r,.ref x]/\(SqL K H r (ns.map V.int)\/SqT K H r (ns.map V.int))/\(SqL K H x (ms.map V.int)\/SqT K H x (ms.map V.int))/\ns.length<=1000/\ms.length<=1000/\ZkF K mg "longest_both" H/\(ns.length=0\/ms.length=0->E (.ref (clsAt mg "Empty")) none H)/\(0<ns.length->0<ms.length->∀(t:Addr) (c a b:Nat) H',Zg H H'->Zih ns ms c a b->H' t=some (.tup [.int (c:Int),.int (a:Int),.int (b:Int)])->Q (.ref t) H')
noncomputable def ZaN:SpT:=λK mg vs H Q E=>∃(r:Addr) (ns:List Int) (c:Nat),vs=[.ref r,.int (c:Int)]/\H r=some (.lst (ns.map V.int))/\ns.length<=1000/\1<=c/\c<=2000/\∀(y:V) (o:Option (Nat×Nat)) H',ZiX (Zl ns c) (Zk ns.length c) o->ZkJ H' y o->Zg H H'->Q y H'
noncomputable def Za9:SpT:=λK mg vs H Q E=>∃(r x:Addr) (ns ms:List Int) (c:Nat),vs=[.ref r,.ref x,.int (c:Int)]/\H r=some (.lst (ns.map V.int))/\H x=some (.lst (ms.map V.int))/\ns.length<=1000/\ms.length<=1000/\1<=c/\c<=2000/\∀(y:V) (o:Option (Nat×Nat)) H',ZjQ (ZbZ ns ms c) (Zk ns.length c) (Zk ms.length c) o->ZkJ H' y o->Zg H H'->Q y H'
noncomputable def ZbE:SpT:=λK mg vs H Q E=>∃(t:Addr) (c a b:Int),vs=[.ref t]/\H t=some (.tup [.int c,.int a,.int b])/\0<c/\∀H',Zg H H'->Q (.bl true) H'
noncomputable def ZcE:SpT:=λK mg vs H Q E=>∃(p r:Addr) (ns:List Int),vs=[.ref p,.ref r]/\Zz H p/\r≠p/\H r=some (.lst (ns.map V.int))/\ns.length<=40/\∀(q:Addr) (ms:List Int) H',H q=none->ms.length<=40->H' q=some (.lst (ms.map V.int))->Zz H' p->Exc p H H'->Q (.ref q) H'
section
variable {P:Program}{w:World}{K:PySem.W.Frag}{mg:Str->Option Value}{base:Heap}
theorem Zgt:FnScope ["row","fewest"] ["row","fewest"] (defScope Zac):=⟨rfl,rfl,rfl,by decide +kernel,rfl,by decide +kernel,by decide +kernel⟩
theorem sc_settle:FnScope ["elders","spine","place","keep"] ["elders","spine","place","keep"] (defScope s_settle):=⟨rfl,rfl,rfl,by decide +kernel,rfl,by decide +kernel,by decide +kernel⟩
theorem sc_tree_of:FnScope ["row","elders","spine","place","keep"] ["row"] (defScope s_tree_of):=⟨rfl,rfl,rfl,by decide +kernel,rfl,by decide +kernel,by decide +kernel⟩
theorem sc_way_up:FnScope ["tree","place","way","at"] ["tree","place"] (defScope s_way_up):=⟨rfl,rfl,rfl,by decide +kernel,rfl,by decide +kernel,by decide +kernel⟩
theorem sc_fences_of:FnScope ["tree","fences","place","way","ahead","behind"] ["tree"] (defScope s_fences_of):=⟨rfl,rfl,rfl,by decide +kernel,rfl,by decide +kernel,by decide +kernel⟩
theorem ZfL:FnScope ["tree"] ["tree"] (defScope ZW):=⟨rfl,rfl,rfl,by decide +kernel,rfl,by decide +kernel,by decide +kernel⟩
theorem ZfM:FnScope ["row"] ["row"] (defScope ZX):=⟨rfl,rfl,rfl,by decide +kernel,rfl,by decide +kernel,by decide +kernel⟩
theorem Zg5:FnScope ["distance","size"] ["distance","size"] (defScope Zaq):=⟨rfl,rfl,rfl,by decide +kernel,rfl,by decide +kernel,by decide +kernel⟩
theorem Zb1:FnScope ["told","size","keys","a"] ["told","size"] (defScope Zad):=⟨rfl,rfl,rfl,by decide +kernel,rfl,by decide +kernel,by decide +kernel⟩
theorem Zcr:FnScope ["told","size","groups","a","key"] ["told","size"] (defScope Zbf):=⟨rfl,rfl,rfl,by decide +kernel,rfl,by decide +kernel,by decide +kernel⟩
theorem Zge:FnScope ["told","size","group"] ["told","size"] (defScope ZbA):=⟨rfl,rfl,rfl,by decide +kernel,rfl,by decide +kernel,by decide +kernel⟩
theorem ZbF:FnScope ["ones","others","size","firsts","b","key","a"] ["ones","others","size"] (defScope Zcw):=⟨rfl,rfl,rfl,by decide +kernel,rfl,by decide +kernel,by decide +kernel⟩
theorem Zba:FnScope ["most","pair_at","size","pair","above","middle","found"] ["most","pair_at"] (defScope Zcx):=⟨rfl,rfl,rfl,by decide +kernel,rfl,by decide +kernel,by decide +kernel⟩
theorem Zdn:FnScope ["row","told"] ["row"] (defScope ZY):=⟨rfl,rfl,rfl,by decide +kernel,rfl,by decide +kernel,by decide +kernel⟩
theorem Zb2:FnScope ["one","other","ones","others"] ["one","other"] (defScope Zae):=⟨rfl,rfl,rfl,by decide +kernel,rfl,by decide +kernel,by decide +kernel⟩
theorem Z8:FnScope ["script","k","cell","seed","number","turn"] ["script","k"] (defScope Zbg):=⟨rfl,rfl,rfl,by decide +kernel,rfl,by decide +kernel,by decide +kernel⟩
theorem Zfs:FnScope ["pot","many","digit"] ["pot","many"] (defScope Zbh):=⟨rfl,rfl,rfl,by decide +kernel,rfl,by decide +kernel,by decide +kernel⟩
theorem ZhF:FnScope ["thing"] ["thing"] (defScope ZaC):=⟨rfl,rfl,rfl,by decide +kernel,rfl,by decide +kernel,by decide +kernel⟩
theorem Zay:FnScope ["pot","most","many","kind","turn","row","k"] ["pot","most"] (defScope ZbB):=⟨rfl,rfl,rfl,by decide +kernel,rfl,by decide +kernel,by decide +kernel⟩
theorem Zc6:FnScope ["row","place","earlier","later"] ["row","place"] (defScope ZaD):=⟨rfl,rfl,rfl,by decide +kernel,rfl,by decide +kernel,by decide +kernel⟩
theorem sc__law_tree:FnScope ["row"] ["row"] (defScope s__law_tree):=⟨rfl,rfl,rfl,by decide +kernel,rfl,by decide +kernel,by decide +kernel⟩
theorem Zg6:FnScope ["pot","some"] ["pot","some"] (defScope Zar):=⟨rfl,rfl,rfl,by decide +kernel,rfl,by decide +kernel,by decide +kernel⟩
theorem ZR:FnScope ["pot","row","way"] ["pot"] (defScope ZZ):=⟨rfl,rfl,rfl,by decide +kernel,rfl,by decide +kernel,by decide +kernel⟩
theorem ZhG:FnScope ["row","size"] ["row","size"] (defScope ZaE):=⟨rfl,rfl,rfl,by decide +kernel,rfl,by decide +kernel,by decide +kernel⟩
theorem Zab:FnScope ["row","size","trees","one","later"] ["row","size"] (defScope ZL):=⟨rfl,rfl,rfl,by decide +kernel,rfl,by decide +kernel,by decide +kernel⟩
theorem Zah:FnScope ["row","second","size","trees","others","one"] ["row","second","size"] (defScope ZM):=⟨rfl,rfl,rfl,by decide +kernel,rfl,by decide +kernel,by decide +kernel⟩
theorem ZfN:FnScope ["told"] ["told"] (defScope Z0):=⟨rfl,rfl,rfl,by decide +kernel,rfl,by decide +kernel,by decide +kernel⟩
theorem Zaf:FnScope ["pot","row","second","at","piece","spot"] ["pot","row"] (defScope Zas):=⟨rfl,rfl,rfl,by decide +kernel,rfl,by decide +kernel,by decide +kernel⟩
theorem sc_law:FnScope ["script","k","pot","row","second","handed","told","both"] ["script"] (defScope s_law):=⟨rfl,rfl,rfl,by decide +kernel,rfl,by decide +kernel,by decide +kernel⟩
theorem ZhH {f:Addr}{fd:FuncData} (F:Fun K "_law_whole" "_law_whole" ZaC f fd) (T:Txt K mg):FnOk P w K mg base (CXE P w) 1 f fd ["thing"] (Zc4 K mg):=by
 refine F.okX ZhF (λvs H Q E h=>?_) (λcdv A outer s H vs Q E hr h=>?_)
 ·obtain⟨n,rfl,_⟩:=h;rfl
 obtain⟨i,rfl,k1⟩:=h
 refine⟨_,(Zf (Zx (Ziu (Zp (Zh3 (K:=K) rfl) rfl T.b_isinstance Zc0 (Za (pv 0) (Za (Zis (v:=.ty "int") rfl T.b_int bt_int rfl) Zb))) (ZnC (pe_not (Zp (Zh3 (K:=K) rfl) rfl T.b_isinstance Zc0 (Za (pv 0) (Za (Zis (v:=.ty "bool") rfl T.b_bool Zpw rfl) Zb)))))))),?_⟩
 walk_at "rd"
 exact⟨_,ty_ii,iteT ⟨_,ty_ib,k1⟩⟩
theorem ZiY {f:Addr}{fd:FuncData} (F:Fun K "_law_deal" "_law_deal" Zbg f fd) (T:Txt K mg):FnOk P w K mg base (CXE P w) 1 f fd ["script","k"] (Zdv K mg):=by
 refine F.okX Z8 (λvs H Q E h=>?_) (λcdv A outer s H vs Q E hr h=>?_)
 ·obtain⟨a,ns,k,rfl,_⟩:=h;rfl
 obtain⟨a,ns,k,rfl,hS,h0,h1,k1⟩:=h
 refine⟨_,(Zd (Zr (i:=2) Z8.nd rfl (Or.inl rfl) Ze)
   (Zd (Zaa (Zm Zga (pv 1) (Zp (Zs (K:=K) rfl) rfl T.b_len Yq (Za (pv 0) Zb)) (Zt _)) (Zf (Zr (i:=2) Z8.nd rfl (Or.inl rfl) (Zo Zd4 (ZF ZA (pv 0) (pv 1) (λ_ _=>rfl)) (Zo Zbj (Zo Zbj (Zo Zbj (Zo ZeU Ze Ze) (Zo ZeU Ze Ze)) (Zo ZeU Ze Ze)) (Zo ZeU Ze Ze))))) ZJ)
   (Zd (Zaa (Zm op_ge (pv 2) (Zo ZeU Ze Ze) (Zt _)) (Zf (Zx (ZaM (Za (Zo ZbX (pv 2) (Zo ZeU Ze Ze)) Zb)))) ZJ)
   (Zd (Zr (i:=3) Z8.nd rfl (Or.inl rfl) (Zo ZU (Zo ZU (Zo Zd4 (pv 2) Ze) (Zo Zbj Ze (pv 1))) Ze))
   (Zd (Zr (i:=4) Z8.nd rfl (Or.inl rfl) Ze)
   (Zd (Za7 (ZbW PassesOwn.never rfl (ZQ rfl T.b_range (Za Ze Zb)) (Zu (i:=5) Z8.nd rfl (Or.inl rfl)) (Zd (Zr (i:=3) Z8.nd rfl (Or.inl rfl) (Zo Zd4 (Zo ZU (Zo Zbj (pv 3) Ze) Ze) Ze))
   (Zf (Zr (i:=4) Z8.nd rfl (Or.inl rfl) (Zo ZU (Zo Zbj (pv 4) Ze) (Zo Zd4 (Zo Zfo (Zo Zd4 (Zo Zbj (pv 3) (pv 3)) Ze) Ze) Ze)))))))
   (Zf (Zx (ZaM (Za (pv 4) Zb)))))))))),?_⟩
 simp only[tIfS,tNot,tTest,tChain,rI0,rI,rU,tVar,tC,tB,tIf,tAndV,tNotV,tCall,tCons,tNil,tAsg,tSeq,tRet,tNext,tOp,tUn,tAnd,tOr,tDrop,gName,gSub,tAug,tCB,tSl,tRaise,tLst,tTup,L2.start,tYes,gTup,gCons,gNil,iniC,Option.join_some,Option.join_none,rEq,rNe,ZiL,Zlk,Zll,Zlm,Zln,Zlo,tBM,Bool.true_eq_false,YC,List.map_nil,List.cons_append,List.nil_append,YK,List.length_nil,List.replicate,List.append_nil,List.set_cons_zero,List.set_cons_succ,List.getElem?_cons_zero,List.getElem?_cons_succ,Option.some.injEq,V.int.injEq,V.bl.injEq,V.ref.injEq,List.cons.injEq,and_true,true_and,exists_eq_left,exists_eq_left',exists_and_left,exists_eq,decide_eq_true_eq,Bool.not_eq_true',decide_eq_false_iff_not,cxK,and_assoc,Bool.false_eq_true,↓reduceIte,Zli,Zh2,Zjp,iRng1,iRng2,iList,iTup,rIxL,rIxT,rSetL,rCat,rIsi,tDelT,tPar,rInsert,rIndex,rLen,rLof,rTof,rIsiS,rEqD,iEnum,rInD,tMaxD,tMinD,rOr,rAll,rIxQ,rSlL,tPart,tNoPart,tSl,ipI,rAppend,rRep,Zlp,ZnW,V.str.injEq,tDGet,tDIn,rCatU,rCatK,tDNewT,tDSetD,tDVals,rLVals,tLam,rEqN,rIsiS,rIndexD,ZkH,ZiW,cp18,cp60,qm1,qm2,qm3,qm4]
 have fin:∀g:Int,0<=g->∀p,H p=none->Q (V.ref p) (upd H p (.lst [V.int g])):=λg hg p hp=>k1 p _ hp ((Zg.refl H).upd hp) ⟨_,Zc,hg⟩
 refine⟨_,.inl hS,Z5 (λhk=>?_) (λhk=>?_)⟩
 case' refine_1 =>
  obtain⟨j,hj0⟩:=Int.eq_ofNat_of_zero_le h0
  have hj:j<(ns.map V.int).length:=by omega
  refine⟨_,hS,_,ZiJ hj0 hj,ns[j]'(by simpa using hj),by simp,Z5 (λc=>⟨by decide,fin _ (Int.sub_nonneg.mpr c)⟩) (λ_=>⟨by decide,ZgS (by decide) (by decide),by decide,by decide,?_⟩)⟩
 case' refine_2 =>
  refine Z5 (λz=>absurd z (by decide)) (λ_=>⟨by decide,ZgS (by decide) (by decide),by decide,by decide,?_⟩)
 all_goals
  refine Zbw (λi σ H'=>∃v2 g o v5,σ=[some (.ref a),some (.int k),v2,some (.int o),some (.int g),v5]/\0<=g/\H'=H) ⟨_,0,_,none,rfl,Int.le_refl _,rfl⟩ ?_ ?_
  ·rintro i σ H' hi ⟨v2,g,o,v5,rfl,hg,rfl⟩
   walk_at "rd"
   have b1:=Int.emod_nonneg (o*48271+12345) (b:=2147483647) (by decide)
   have b2:=Int.emod_lt_of_pos (o*48271+12345) (b:=2147483647) (by decide)
   refine⟨mul_r (by decide) (by decide),by decide,mul_r (by decide) (by decide),ZgS (by omega) (by omega),by decide,⟨by decide,by decide⟩,by decide,?_⟩
   have b3:=Int.emod_nonneg ((o*48271+12345) % 2147483647*((o*48271+12345) % 2147483647) % 2147483629 / 64) (b:=16777216) (by decide)
   have b4:=Int.mul_nonneg hg (show(0:Int)<=16777216 by decide)
   omega
  ·rintro σ H' ⟨v2,g,o,v5,rfl,hg,rfl⟩
   walk_at "rd"
   exact⟨by decide,fin g hg⟩
theorem ZiZ {f:Addr}{fd:FuncData} (F:Fun K "_law_take" "_law_take" Zbh f fd) (T:Txt K mg):FnOk P w K mg base (CXE P w) 1 f fd ["pot","many"] (ZaF K mg):=by
 refine F.okX Zfs (λvs H Q E h=>?_) (λcdv A outer s H vs Q E hr h=>?_)
 ·obtain⟨p,many,rfl,_⟩:=h;rfl
 obtain⟨p,many,rfl,h0,h1,⟨x,hp,hx⟩,k1⟩:=h
 refine⟨_,(Zd (Zr (i:=2) Zfs.nd rfl (Or.inl rfl) (Zo Zd4 (ZF ZA (pv 0) Ze (λ_ _=>rfl)) (pv 1)))
   (Zd (Zki (Zo Zfo (ZF ZA (pv 0) Ze (λ_ _=>rfl)) (pv 1)) (Zkh (pv 0) Ze set_list (λ_=>rfl)))
   (Zf (Zx (pv 2))))),?_⟩
 walk_at "rd"
 refine⟨_,SqL.of hp,_,rfl,_,rfl,h0,?_⟩
 refine⟨_,SqL.of hp,_,rfl,_,rfl,⟨h0,by omega⟩,_,hp,_,rfl,?_⟩
 exact k1 _ _ (Int.emod_nonneg _ (by omega)) (Int.emod_lt_of_pos _ h0) ⟨_,Zc,Int.ediv_nonneg hx (by omega)⟩ Exc.upd
theorem ZjR {f:Addr}{fd:FuncData} (F:Fun K "_law_row" "_law_row" ZbB f fd) (Zq:Callee P w K mg base "_law_take" 1 ["pot","many"] (ZaF K mg)) (T:Txt K mg):FnOk P w K mg base (CXE P w) 2 f fd ["pot","most"] (sp__law_row K mg):=by
 refine F.okX Zay (λvs H Q E h=>?_) (λcdv A outer s H vs Q E hr h=>?_)
 ·obtain⟨p,most,rfl,_⟩:=h;rfl
 obtain⟨p,most,rfl,h0,h1,hP,k1⟩:=h
 refine⟨_,(Zd (Zr (i:=2) Zay.nd rfl (Or.inl rfl) (Zh Zq (hr.mono (by decide)) rfl Zv (Za (pv 0) (Za (Zo ZU (pv 1) Ze) Zb))))
   (Zd (Zr (i:=3) Zay.nd rfl (Or.inl rfl) (Zh Zq (hr.mono (by decide)) rfl Zv (Za (pv 0) (Za Ze Zb))))
   (Zd (Zr (i:=4) Zay.nd rfl (Or.inl rfl) (Zo ZU Ze (Zh Zq (hr.mono (by decide)) rfl Zv (Za (pv 0) (Za Ze Zb)))))
   (Zd (Zr (i:=5) Zay.nd rfl (Or.inr rfl) (ZaM Zb))
   (Zd (Za7 (ZbW PassesOwn.never rfl (ZQ rfl T.b_range (Za (pv 2) Zb)) (Zu (i:=6) Zay.nd rfl (Or.inl rfl)) (Zf (Zaa (Zm Zga (pv 3) Ze (Zt _)) (Zf (Z4 (Zdj PySem.F.plainAttrs_list PySem.F.slot_list_append PySem.F.type_list_append Zap (pv 5) (Za (Zh Zq (hr.mono (by decide)) rfl Zv (Za (pv 0) (Za (pv 4) Zb))) Zb)))) (Zf (Zaa (Zm Zf9 (pv 3) Ze (Zt _)) (Zf (Z4 (Zdj PySem.F.plainAttrs_list PySem.F.slot_list_insert PySem.F.type_list_insert ZlW (pv 5) (Za (Zh Zq (hr.mono (by decide)) rfl Zv (Za (pv 0) (Za (Zo ZU (pv 6) Ze) Zb))) (Za (pv 6) Zb))))) (Zf (Zaa (Zm Zf9 (pv 3) Ze (Zt _)) (Zf (Z4 (Zdj PySem.F.plainAttrs_list PySem.F.slot_list_append PySem.F.type_list_append Zap (pv 5) (Za (Zo ZbX (Zo Zd4 (pv 6) (pv 4)) (Zo Zfo (pv 6) (pv 4))) Zb)))) (Zf (Zaa (Zm Zf9 (pv 3) Ze (Zt _)) (Zf (Z4 (Zdj PySem.F.plainAttrs_list PySem.F.slot_list_append PySem.F.type_list_append Zap (pv 5) (Za (ZF ZA (ZaM (Za (pv 6) (Za (ZgO ZeV (pv 6)) Zb))) (Zo Zd4 (pv 4) Ze) (λ_ _=>rfl)) Zb)))) (Zf (Zaa (Zm Zf9 (pv 3) Ze (Zt _)) (Zf (Z4 (Zdj PySem.F.plainAttrs_list PySem.F.slot_list_append PySem.F.type_list_append Zap (pv 5) (Za (Zo Zbj (Zo ZbX (Zh Zq (hr.mono (by decide)) rfl Zv (Za (pv 0) (Za Ze Zb))) Ze) (Zo ZeU Ze Ze)) Zb)))) (Zf (Z4 (Zdj PySem.F.plainAttrs_list PySem.F.slot_list_append PySem.F.type_list_append Zap (pv 5) (Za (Zo ZbX (Zh Zq (hr.mono (by decide)) rfl Zv (Za (pv 0) (Za Ze Zb))) Ze) Zb))))))))))))))))
   (Zd (Zaa (Zm Zf9 (pv 3) Ze (Zt _)) (Zf (Zr (i:=5) Zay.nd rfl (Or.inr rfl) (ZbS ["k","row"] [none,some 5] rfl rfl rfl (ZQ rfl T.b_range (Za (pv 2) Zb)) (λ_ _ _ _ _=>(Zu (i:=0) (show(["k","row"]:List Str).Nodup from by decide +kernel) rfl (Or.inl rfl))) (λ_ _ _ _ _=>ZbR) (λ_ _ _ _ _=>(pe_bmK (K:=K) rfl PySem.F.plainAttrs_list PySem.F.slot_list_index PySem.F.type_list_index (ZnZ (K:=K) rfl) (pv 1) (Za (pv 0) Zb))) ZH))) ZJ)
   (Zf (Zx (pv 5))))))))),?_⟩
 refine ZaO (fun σ Hx=>∃m:Int,σ=[some (.ref p),some (.int most),some (.int m),none,none,none,none]/\0<=m/\m<=most/\Zz Hx p/\Exc p H Hx) (λR hR=>?_) ?_
 ·walk_at "rd"
  exact⟨p,_,rfl,by omega,by omega,hP,λd H1 d0 d1 P1 e1=>hR _ _ ⟨d,rfl,d0,by omega,P1,e1⟩⟩
 rintro σ H1 ⟨many,rfl,m0,m1,P1,e1⟩
 refine ZaO (fun σ Hx=>∃k:Int,σ=[some (.ref p),some (.int most),some (.int many),some (.int k),none,none,none]/\0<=k/\k<8/\Zz Hx p/\Exc p H Hx) (λR hR=>?_) ?_
 ·walk_at "rd"
  exact⟨p,_,rfl,by decide,by decide,P1,λd H2 d0 d1 P2 e2=>hR _ _ ⟨d,rfl,d0,d1,P2,e1.trans e2⟩⟩
 clear P1 e1 H1
 rintro σ H1 ⟨kd,rfl,d0,d1,P1,e1⟩
 refine ZaO (fun σ Hx=>∃t:Int,σ=[some (.ref p),some (.int most),some (.int many),some (.int kd),some (.int t),none,none]/\2<=t/\t<6/\Zz Hx p/\Exc p H Hx) (λR hR=>?_) ?_
 ·walk_at "rd"
  exact⟨p,_,rfl,by decide,by decide,P1,λd H2 d0 d1 P2 e2=>⟨d,rfl,hR _ _ ⟨_,rfl,by omega,by omega,P2,e1.trans e2⟩⟩⟩
 clear P1 e1 H1
 rintro σ H1 ⟨tn,rfl,t0,t1,P1,e1⟩
 refine ZaO (fun σ Hx=>∃q:Addr,σ=[some (.ref p),some (.int most),some (.int many),some (.int kd),some (.int tn),some (.ref q),none]/\H q=none/\q≠p/\Hx q=some (.lst [])/\Zz Hx p/\Exc p H Hx) (λR hR=>?_) ?_
 ·walk_at "rd"
  exact⟨Ys _,λq hq=>hR _ _ ⟨q,rfl,e1.free (P1.ne hq) hq,P1.ne hq,Zc,P1.upd hq,e1.same ((Zg.refl H1).upd hq)⟩⟩
 clear P1 e1 H1
 rintro σ H1 ⟨q,rfl,zq,nqp,hq1,P1,e1⟩
 refine ZaO (fun σ Hx=>∃(ns:List Int) (v6:Option V),σ=[some (.ref p),some (.int most),some (.int many),some (.int kd),some (.int tn),some (.ref q),v6]/\(ns.length:Int)=many/\(kd=3->∀j:Nat,(j:Int)<many->(j:Int)∈ns)/\Hx q=some (.lst (ns.map V.int))/\Zz Hx p/\Exc p H Hx) (λR hR=>?_) ?_
 ·walk_at "rd"
  refine⟨by omega,by omega,?_⟩
  refine Zbw (λi σ Hx=>∃(ns:List Int) (v6:Option V),σ=[some (.ref p),some (.int most),some (.int many),some (.int kd),some (.int tn),some (.ref q),v6]/\ns.length=i/\(kd=3->∀j:Nat,j<i->(j:Int)∈ns)/\Hx q=some (.lst (ns.map V.int))/\Zz Hx p/\Exc p H Hx) ⟨[],none,rfl,rfl,(λ_ j hj=>absurd hj (by omega)),hq1,P1,e1⟩ ?_ ?_
  ·rintro i σ Hx hi ⟨ns,v6,rfl,hl,hin,hqx,Px,ex⟩
   have hi':i<1000:=by omega
   have hb:(ns.map V.int).length<sizeLine:=YA (show _<=1000 by rw[Yg];omega) (by decide)
   have app:kd≠3->∀(y:Int) (Hy:Hp),Hy q=some (.lst (ns.map V.int))->Zz Hy p->Exc p H Hy->∃x_1,Hy q=some (HO.lst x_1)/\x_1.length<sizeLine/\∃ns':List Int,ns'.length=i+1/\(kd=3->∀(j:Nat),j<i+1->(j:Int)∈ns')/\upd Hy q (HO.lst (x_1++[V.int y])) q=some (HO.lst (List.map V.int ns'))/\Zz (upd Hy q (HO.lst (x_1++[V.int y]))) p/\Exc p H (upd Hy q (HO.lst (x_1++[V.int y]))):=λn3 y Hy hy Py ey =>
    ⟨_,hy,hb,ns++[y],by simp[hl],(λz=>absurd z n3),by rw[Zc];simp,Py.updN nqp,ey.updN zq⟩
   walk_at "rd"
   refine Z5 (λk3=>⟨Z6 hqx,p,_,rfl,by omega,by omega,Px,λd H2 d0 d1 P2 e2=>app (by omega) d H2 (e2 _ _ nqp hqx) P2 (ex.trans e2)⟩) λk3=>?_
   refine Z5 (λk4=>⟨Z6 hqx,p,_,rfl,by omega,by omega,Px,λd H2 d0 d1 P2 e2=>?_⟩) λk4=>?_
   ·refine⟨_,d,rfl,e2 _ _ nqp hqx,d0,by omega,hb,ns.take d.toNat++(0+(i:Int))::ns.drop d.toNat,by simp;omega,λ_ j hj=>?_,by rw[Zc];simp,P2.updN nqp,(ex.trans e2).updN zq⟩
    by_cases ej:j=i
    ·rw[ej];simp
    ·have hm:=hin k4 j (by omega)
     rw[<-Y7 d.toNat ns]at hm
     rcases Yz.mp hm with z|z
     ·exact YI _ z
     ·exact Yv _ (YR _ z)
   refine Z5 (λk5=>⟨Z6 hqx,by omega,⟨by omega,by omega⟩,app k4 _ Hx hqx Px ex⟩) λk5=>?_
   refine Z5 (λk6=>⟨Z6 hqx,by decide,λu hu=>⟨by decide,?_⟩⟩) λk6=>?_
   ·obtain⟨v,hv,y,rfl⟩:=Zpy (xs:=[V.int (0+(i:Int)),V.int (-(0+(i:Int)))]) (i:=tn % 2) (λv=>∃y:Int,v=V.int y) (by omega) (by show _<((2:Nat):Int);omega) (by
     intro x hx
     simp only[Yk,List.not_mem_nil,or_false]at hx
     rcases hx with rfl|rfl<;>exact⟨_,rfl⟩)
    have g:=(Zg.refl Hx).upd (o:=.lst [V.int (0+(i:Int)),V.int (-(0+(i:Int)))]) hu
    exact⟨_,SqL.of Zc,_,hv,app k4 y _ (g _ _ hqx) (Px.same g) (ex.same g)⟩
   exact Z5 (λk7=>⟨Z6 hqx,p,_,rfl,by decide,by decide,Px,λd H2 d0 d1 P2 e2=>⟨d,rfl,cp59,ZgS (by omega) (by omega),app k4 _ H2 (e2 _ _ nqp hqx) P2 (ex.trans e2)⟩⟩) λk7=>⟨Z6 hqx,p,_,rfl,by decide,by decide,Px,λd H2 d0 d1 P2 e2=>⟨d,rfl,app k4 _ H2 (e2 _ _ nqp hqx) P2 (ex.trans e2)⟩⟩
  ·rintro σ Hx ⟨ns,v6,rfl,hl,hin,hqx,Px,ex⟩
   exact hR _ _ ⟨ns,v6,rfl,by omega,(λz j hj=>hin z j (by omega)),hqx,Px,ex⟩
 clear P1 e1 hq1 H1
 rintro σ H1 ⟨ns,v6,rfl,hl,hin,hq1,P1,e1⟩
 refine ZaO (fun σ Hx=>∃(q:Addr) (ns:List Int) (v6:Option V),σ=[some (.ref p),some (.int most),some (.int many),some (.int kd),some (.int tn),some (.ref q),v6]/\H q=none/\(ns.length:Int)=many/\Hx q=some (.lst (ns.map V.int))/\Zz Hx p/\Exc p H Hx) (λR hR=>?_) ?_
 ·walk_at "rd"
  refine Z5 (λk3=>⟨by omega,by omega,?_⟩) λk3=>hR _ _ ⟨q,ns,v6,rfl,zq,hl,hq1,P1,e1⟩
  refine comp_map (n:=many.toNat) (λj=>V.int ((ns.idxOf ((j:Nat):Int):Nat):Int)) (YA (show _<=1000 by omega) (by decide)) (λj Hx s hj=>hj) (λHx s=>Ye _) ?_ ?_
  ·rintro j x Hx Hy hj s ⟨rfl,rfl⟩
   have e0:((0:Int)+(j:Int))=(j:Int):=by omega
   rw[e0]
   walk_at "rd"
   exact⟨Z6 (s _ _ hq1),_,SqL.of (s _ _ hq1),by omega,hin k3 j (by omega),CW.next hj rfl s⟩
  ·intro l Hx s hlx
   have em:(List.range many.toNat).map (λj=>V.int ((ns.idxOf ((j:Nat):Int):Nat):Int))=((List.range many.toNat).map λj=>((ns.idxOf ((j:Nat):Int):Nat):Int)).map V.int:=by rw[YU];rfl
   rw[em]
   exact hR _ _ ⟨l,_,v6,rfl,e1.free ((P1.same s).ne hlx) (s.free hlx),by simp;omega,Zc,(P1.same s).upd hlx,(e1.same s).same ((Zg.refl Hx).upd hlx)⟩
 rintro σ H2 ⟨q2,ms,v6',rfl,zq2,hl2,hq2,P2,e2⟩
 walk_at "rd"
 exact k1 q2 ms _ zq2 (by omega) hq2 P2 e2
theorem ZhI {f:Addr}{fd:FuncData} (F:Fun K "_law_elder" "_law_elder" ZaD f fd) (T:Txt K mg):FnOk P w K mg base (CXE P w) 1 f fd ["row","place"] (Zc5 K mg):=by
 refine F.okX Zc6 (λvs H Q E h=>?_) (λcdv A outer s H vs Q E hr h=>?_)
 ·obtain⟨r,ns,i,rfl,_⟩:=h;rfl
 obtain⟨r,ns,i,rfl,hr1,hn,hi,k1⟩:=h
 refine⟨_,(Zd (Zea (i:=2) ["other","row","place"] [none,some 0,some 1] Zc6.nd rfl (Or.inl rfl) rfl rfl rfl (ZQ rfl T.b_range (Za (pv 1) Zb)) (λ_ _ _ _ _=>(Zu (i:=0) (show(["other","row","place"]:List Str).Nodup from by decide +kernel) rfl (Or.inl rfl))) (λ_ _ _ _ _=>Zd8 (Zm ZnG (ZF (r:=rIxL K) ZA (pv 1) (pv 0) (λ_ _=>rfl)) (ZF (r:=rIxL K) ZA (pv 1) (pv 2) (λ_ _=>rfl)) (Zt _))) (λ_ _ _ _ _=>(pv 0)) ZH)
   (Zd (Zea (i:=3) ["other","row","place"] [none,some 0,some 1] Zc6.nd rfl (Or.inl rfl) rfl rfl rfl (ZhS rfl T.b_range (Za (Zo ZU (pv 1) Ze) (Za (Zp (Zs (K:=K) rfl) rfl T.b_len Yq (Za (pv 0) Zb)) Zb))) (λ_ _ _ _ _=>(Zu (i:=0) (show(["other","row","place"]:List Str).Nodup from by decide +kernel) rfl (Or.inl rfl))) (λ_ _ _ _ _=>Zd8 (Zm Zga (ZF (r:=rIxL K) ZA (pv 1) (pv 0) (λ_ _=>rfl)) (ZF (r:=rIxL K) ZA (pv 1) (pv 2) (λ_ _=>rfl)) (Zt _))) (λ_ _ _ _ _=>(pv 0)) ZH)
   (Zd (Zaa (PW.pt (ZgM (Zm (Zks (K:=K) rfl hr) (pv 2) (ZaM Zb) (Zt _)) (ZgL (Zm (Zks (K:=K) rfl hr) (pv 3) (ZaM Zb) (Zt _))))) (Zf (Zx (ZF ZA (Zo ZiB (Zo ZiB (Zax Zco (pv 2) (Zau (ZgO ZeV Ze)) ZcP) (Zax Zco (pv 3) ZcP (Zau Ze))) (ZaM (Za (ZgO ZeV Ze) Zb))) Ze (λ_ _=>rfl)))) ZJ)
   (Zd (Zaa (Zm ZeL (ZF ZA (pv 0) (ZF ZA (pv 2) (ZgO ZeV Ze) (λ_ _=>rfl)) (λ_ _=>rfl)) (ZF ZA (pv 0) (ZF ZA (pv 3) Ze (λ_ _=>rfl)) (λ_ _=>rfl)) (Zt _)) (Zf (Zx (ZF ZA (pv 2) (ZgO ZeV Ze) (λ_ _=>rfl)))) ZJ)
   (Zf (Zx (ZF ZA (pv 3) Ze (λ_ _=>rfl)))))))),?_⟩
 have eL:(ns.map V.int).length=ns.length:=Yg ..
 have EE:=Zjv (f:=nth ns) hi
 generalize hA:((List.range i).filter λq=>decide (nth ns q<=nth ns i))=A at EE
 generalize hB:((List.range (ns.length-(i+1))).filter λj=>decide (nth ns (i+1+j)<nth ns i))=B at EE
 have hqa:∀q∈A,q<ns.length:=λq hq=>by
  rw[<-hA]at hq
  have:=Yx.mp (YH.mp hq).1;omega
 have hqb:∀j∈B,i+1+j<ns.length:=λj hq=>by
  rw[<-hB]at hq
  have:=Yx.mp (YH.mp hq).1;omega
 refine ZaO (fun σ Hz=>∃a,σ=[some (.ref r),some (.int (i:Int)),some (.ref a),none]/\Zg H Hz/\Hz a=some (.lst (Zy A))) (λR hR=>?_) ?_
 ·walk_at "rd"
  refine⟨by omega,by omega,?_⟩
  have e1:((i:Int)).toNat=i:=by omega
  rw[e1]
  refine ZeE (n:=i) (λq=>decide (nth ns q<=nth ns i)) (λq=>V.int ((q:Nat):Int)) (YA (show _<=1000 by omega) (by decide)) (λj Hx s hj=>hj) (λHx s=>Ye _) ?_ ?_
  ·rintro j x Hx Hz hj s ⟨rfl,rfl⟩
   have e0:((0:Int)+(j:Int))=(j:Int):=by omega
   rw[e0]
   walk_at "rd"
   exact⟨_,SqL.of (s _ _ hr1),_,Zc1 (by omega),_,SqL.of (s _ _ hr1),_,Zc1 (by omega),_,rfl,_,rfl,Z5 (λh=>CF.take hj (YF h) rfl s) (λh=>CF.skip hj (YE h) s)⟩
  ·intro l1 H1 s1 hl1
   exact hR _ _ ⟨l1,rfl,s1.Zat hl1,by rw[Zc,hA];rfl⟩
 rintro σ Hx ⟨a,rfl,sx,hxa⟩
 refine ZaO (fun σ Hy=>∃b,σ=[some (.ref r),some (.int (i:Int)),some (.ref a),some (.ref b)]/\Zg H Hy/\Hy a=some (.lst (Zy A))/\Hy b=some (.lst (Zy (B.map λj=>i+1+j)))) (λR hR=>?_) ?_
 ·walk_at "rd"
  refine⟨_,.inl (SqL.of (sx _ _ hr1)),by omega,by omega,by omega,by rw[eL];omega,?_⟩
  have e1:((((ns.map V.int).length:Nat):Int)-((i:Int)+1)).toNat=ns.length-(i+1):=by rw[eL];omega
  rw[e1]
  refine ZeE (n:=ns.length-(i+1)) (λq=>decide (nth ns (i+1+q)<nth ns i)) (λq=>V.int ((i+1+q:Nat):Int)) (YA (show _<=1000 by omega) (by decide)) (λj Hx s hj=>hj) (λHx s=>Ye _) ?_ ?_
  ·rintro j x Hy Hz hj s ⟨rfl,rfl⟩
   have e0:((i:Int)+1+(j:Int))=((i+1+j:Nat):Int):=by omega
   rw[e0]
   walk_at "rd"
   exact⟨_,SqL.of ((sx.trans s) _ _ hr1),_,Zc1 (by omega),_,SqL.of ((sx.trans s) _ _ hr1),_,Zc1 (by omega),_,rfl,_,rfl,Z5 (λh=>CF.take hj (YF h) rfl s) (λh=>CF.skip hj (YE h) s)⟩
  ·intro l1 H1 s1 hl1
   exact hR _ _ ⟨l1,rfl,(sx.trans s1).Zat hl1,(s1.Zat hl1) _ _ hxa,by rw[Zc,hB];simp[Zy,Function.comp_def]⟩
 clear sx hxa Hx
 rintro σ Hx ⟨b,rfl,sx,hxa,hxb⟩
 have ka:Zbx (Zy A) (some (-1)) none=Zy (A.drop (A.length-1)):=by rw[cut_m1,ZE];simp[Zy,List.map_drop]
 have kb:Zbx (Zy (B.map λj=>i+1+j)) none (some 1)=Zy ((B.take 1).map λj=>i+1+j):=by rw[Zpz];simp[Zy,List.map_take]
 have lA:A.length<=1000:=by rw[<-hA];exact Yj (Y3 _ _) (by simp;omega)
 refine ZaO (fun σ Hy=>σ=[some (.ref r),some (.int (i:Int)),some (.ref a),some (.ref b)]/\Zg Hx Hy/\A≠[]/\B≠[]) (λR hR=>?_) ?_
 ·refine ifR (λH1=>Zg Hx H1/\(A=[]\/B=[])) (λH1=>Zg Hx H1/\A≠[]/\B≠[]) ?_ ?_ ?_
  ·rintro H1 ⟨s1,hc⟩
   have key:∃e:Int,atI (Zy (A.drop (A.length-1))++Zy ((B.take 1).map λj=>i+1+j)++[V.int (-1)]) 0=some (V.int e)/\ZK (nth ns) ns.length i e:=by
    rcases hc with rfl|rfl
    ·cases B with
     |nil=>exact⟨-1,rfl,by simpa using EE⟩
     |cons j B'=>exact⟨((i+1+j:Nat):Int),rfl,by simpa using EE⟩
    ·rcases snoc_cases A with rfl|⟨ys,y,rfl⟩
     ·exact⟨-1,rfl,by simpa using EE⟩
     ·refine⟨(y:Int),?_,by simpa using EE⟩
      have:(ys++[y]).drop ((ys++[y]).length-1)=[y]:=by simp
      rw[this];rfl
   obtain⟨e,he,hE⟩:=key
   have m1:=s1 _ _ hxa
   have m2:=s1 _ _ hxb
   walk_at "rd"
   refine⟨_,SqL.of m1,λc1 z1=>?_⟩
   rw[ka]
   have u1:=(Zg.refl H1).upd (o:=.lst (Zy (A.drop (A.length-1)))) z1
   refine⟨_,SqL.of (u1 _ _ m2),λc2 z2=>?_⟩
   rw[kb]
   have u2:=(Zg.refl _).upd (o:=.lst (Zy ((B.take 1).map λj=>i+1+j))) z2
   refine⟨_,u2 _ _ Zc,_,Zc,Yj (show _<=1001 by rw[ZE,ZE];simp;omega) (by decide),λc3 z3=>⟨by decide,λc4 z4=>?_⟩⟩
   have u4:=(Zg.refl _).upd (o:=.lst [V.int (-1)]) z4
   refine⟨_,u4 _ _ Zc,_,Zc,Yj (show _<=1003 by rw[Yy,ZE,ZE];simp;omega) (by decide),λc5 z5=>⟨_,SqL.of Zc,_,he,k1 e _ hE (((((((sx.trans s1).trans u1).trans u2).Zat z3).trans u4).Zat z5))⟩⟩
  ·rintro H1 ⟨s1,hc⟩
   walk_at "rd"
   exact hR _ _ ⟨rfl,s1,hc⟩
  ·intro B0 hT hU
   walk_at "rd"
   refine⟨Ys _,λc hc=>?_⟩
   have u1:=(Zg.refl Hx).upd (o:=.lst []) hc
   refine⟨_,Zlu (u1 _ _ hxa) Zc,?_⟩
   by_cases zA:A=[]
   ·exact Z5 (λ_=>hT _ ⟨u1,.inl zA⟩) λz=>absurd (YF zA) z
   refine Z5 (λz=>absurd (of_decide_eq_true z) zA) λ_=>⟨Ys _,λd hd=>?_⟩
   have u2:=u1.Zat (o:=.lst []) hd
   refine⟨_,Zlu (u2 _ _ hxb) Zc,?_⟩
   by_cases zB:B=[]
   ·have:decide (B.map (λj=>i+1+j)=[])=true:=YF (by rw[zB];rfl)
    rw[this];exact hT _ ⟨u2,.inr zB⟩
   ·have:decide (B.map (λj=>i+1+j)=[])=false:=YE (by simpa using zB)
    rw[this];exact hU _ ⟨u2,zA,zB⟩
 rintro σ Hy ⟨rfl,sy,nA,nB⟩
 replace hxa:=sy _ _ hxa
 replace hxb:=sy _ _ hxb
 replace sx:=sx.trans sy
 rcases snoc_cases A with rfl|⟨ys,y,rfl⟩
 ·exact absurd rfl nA
 cases B with
 |nil=>exact absurd rfl nB
 |cons j B' =>
  have hy:y<ns.length:=hqa y (by simp)
  have hj:i+1+j<ns.length:=hqb j (by simp)
  have el:atI (Zy (ys++[y])) (-1)=some (V.int (y:Int)):=by rw[ZeD];exact ZnM _ _
  have ej:atI (Zy ((j::B').map λj=>i+1+j)) 0=some (V.int ((i+1+j:Nat):Int)):=Zdk (j:=0) rfl
  have eg:(ys++[y]).getLast?=some y:=by simp
  rw[eg]at EE
  walk_at "rd"
  refine⟨_,SqL.of hxa,_,el,_,_,rfl,SqL.of (sx _ _ hr1),_,Zc1 hy,_,SqL.of hxb,_,ej,_,_,rfl,SqL.of (sx _ _ hr1),_,Zc1 hj,_,rfl,_,rfl,Z5 (λz=>⟨_,SqL.of hxa,_,el,k1 _ _ ?_ sx⟩) λz=>⟨_,SqL.of hxb,_,ej,k1 _ _ ?_ sx⟩⟩
  ·simp only[List.head?_cons,Yb (show ¬ nth ns y<=nth ns (i+1+j) by omega)]at EE
   exact EE
  ·simp only[List.head?_cons,Yd (show nth ns y<=nth ns (i+1+j) by omega)]at EE
   exact EE
theorem ok__law_tree {f:Addr}{fd:FuncData} (F:Fun K "_law_tree" "_law_tree" s__law_tree f fd) (Zdy:Callee P w K mg base "_law_elder" 1 ["row","place"] (Zc5 K mg)) (T:Txt K mg):FnOk P w K mg base (CXE P w) 2 f fd ["row"] (sp__law_tree K mg):=by
 refine F.okX sc__law_tree (λvs H Q E h=>?_) (λcdv A outer s H vs Q E hr h=>?_)
 ·obtain⟨r,ns,rfl,_⟩:=h;rfl
 obtain⟨r,ns,rfl,hr0,hn,k1⟩:=h
 refine⟨_,(Zf (Zx (ZaA (ZeC (K:=K) rfl) rfl T.b_tuple Zd9 (Za (ZbS ["place","row"] [none,some 0] rfl rfl rfl (ZQ rfl T.b_range (Za (Zp (Zs (K:=K) rfl) rfl T.b_len Yq (Za (pv 0) Zb)) Zb)) (λ_ _ _ _ _=>(Zu (i:=0) (show(["place","row"]:List Str).Nodup from by decide +kernel) rfl (Or.inl rfl))) (λ_ _ _ _ _=>ZbR) (λ_ _ _ _ _=>(Zh Zdy (hr.mono (by decide)) rfl Zv (Za (pv 1) (Za (pv 0) Zb)))) ZH) Zb)))),?_⟩
 walk_at "rd"
 have eL:(ns.map V.int).length=ns.length:=Yg ..
 refine⟨_,.inl (SqL.of hr0),by omega,by omega,?_⟩
 have e1:(((ns.map V.int).length:Nat):Int).toNat=ns.length:=by rw[eL];omega
 rw[e1]
 refine Zjt (n:=ns.length) (λi acc Hx=>∃es:List Int,acc=es.map V.int/\es.length=i/\(∀p,p<i->ZK (nth ns) ns.length p (es.getD p 0))/\Zg H Hx) (YA (show _<=1000 by omega) (by decide)) ⟨[],rfl,rfl,(λp hp=>absurd hp (by omega)),Zg.refl _⟩ (λi acc Hx _ hi=>hi) (λacc Hx _=>Ye _) ?_ ?_
 ·rintro i x acc Hx Hy hi hla ⟨es,rfl,hl,hE,sx⟩ ⟨rfl,rfl⟩
  walk_at "rd"
  refine⟨r,ns,i,by rw[Int.zero_add],sx _ _ hr0,hn,hi,λe H2 he s2=>CA.take hi hla ⟨es++[e],by simp,by simp[hl],λp hp=>?_,sx.trans s2⟩⟩
  by_cases z:p<es.length
  ·rw[show(es++[e]).getD p 0=es.getD p 0 by simp[YB,YZ z]]
   exact hE p (by omega)
  ·have ep:p=es.length:=by omega
   rw[show(es++[e]).getD p 0=e by rw[ep];simp[YB],ep,hl]
   exact he
 ·rintro l acc Hx ⟨es,rfl,hl,hE,sx⟩ _ hlx
  refine⟨l,rfl,_,.inl ⟨SqL.of Zc,λt ht=>k1 t es _ ⟨hl,hE⟩ ((sx.Zat hlx).Zat ht) Zc⟩⟩
theorem ZdM {f:Addr}{fd:FuncData}{dV:Value} (F:FunD K "need_numbers" "need_numbers" Zac f fd dV) (T:Txt K mg):FnOk P w K mg base (CXE P w) 1 f fd ["row","fewest"] (Zao K mg):=by
 refine F.okX Zgt (λvs H Q E h=>?_) (λcdv A outer s H vs Q E hr h=>?_)
 ·obtain⟨r,ns,k,rfl,_⟩:=h;rfl
 obtain⟨r,ns,k,rfl,hS,hn,h0,h1,k1,k2⟩:=h
 refine⟨_,(Zf (Zaa (Zm Zga (Zp (Zs (K:=K) rfl) rfl T.b_len Yq (Za (pv 0) Zb)) (pv 1) (Zt _)) (Zf (ZnS rfl rfl T.c_Empty T.x_Empty (Za (ZlV (ZiH (by decide) (ZnT (Zp (Zs (K:=K) rfl) rfl T.b_len Yq (Za (pv 0) Zb)) (ZiH (by decide) (ZnT (pv 1) (ZiH (by decide) pj_nil)))))) Zb) Zpv)) ZJ)),?_⟩
 walk_at "rd"
 have eN:(ns.map V.int).length=ns.length:=Yg ..
 exact⟨_,hS,Z5 (λz=>⟨_,hS,by omega,by rw[eN];omega,h0,by omega,λy=>⟨by decide,k2 (by rw[eN]at z;exact z)⟩⟩) λz=>k1 (by rw[eN]at z;omega)⟩
theorem ok_settle {f:Addr}{fd:FuncData} (F:Fun K "settle" "settle" s_settle f fd) (T:Txt K mg):FnOk P w K mg base (CXE P w) 1 f fd ["elders","spine","place","keep"] (sp_settle K mg):=by
 refine F.okX sc_settle (λvs H Q E h=>?_) (λcdv A outer s H vs Q E hr h=>?_)
 ·obtain⟨el,sp,es,A,B,i,rfl,_⟩:=h;rfl
 obtain⟨el,sp,es,A',B,i,rfl,hel,hsp,hne,hi,hq,hlen,k1⟩:=h
 refine⟨_,(Zd (Zaa (Zm Zga (pv 3) (Zp (Zs (K:=K) rfl) rfl T.b_len Yq (Za (pv 1) Zb)) (Zt _)) (Zf (Zki (pv 2) (Zkh (pv 0) (ZF ZA (pv 1) (pv 3) (λ_ _=>rfl)) set_list (λ_=>rfl)))) ZJ)
   (Zd (Zaa (Zm ZeL (pv 3) Ze (Zt _)) (Zf (Zki (ZF ZA (pv 1) (Zo ZbX (pv 3) Ze) (λ_ _=>rfl)) (Zkh (pv 0) (pv 2) set_list (λ_=>rfl)))) ZJ)
   (Zd (Zkw (pv 1) (pv 3))
   (Zf (Z4 (Zdj PySem.F.plainAttrs_list PySem.F.slot_list_append PySem.F.type_list_append Zap (pv 1) (Za (pv 2) Zb))))))),?_⟩
 walk_at "rd"
 have hb1:(Zy A').length<sizeLine:=by
  rw[ZE]
  rw[Yy]at hlen
  exact YA (show _<=1000 by omega) (by decide)
 have etk:List.take A'.length (Zy (A'++B))=Zy A':=by
  rw[ZeD]
  have:A'.length=(Zy A').length:=(ZE A').symm
  rw[this,List.take_left]
 have hle:A'.length<=(Zy (A'++B)).length:=by rw[ZE,Yy];omega
 have esn:Zy A'++[V.int (i:Nat)]=Zy (A'++[i]):=by rw[ZeD];rfl
 refine⟨_,.inl (SqL.of hsp),?_⟩
 rw[ZE,Yy]
 -- the end: behind the two stores
 have fin:∀(es1:List Int) (Hx:Hp),(∀b o,b≠el->b≠sp->H b=some o->Hx b=some o)->Hx el=some (.lst (es1.map V.int))->Hx sp=some (.lst (Zy (A'++B)))->es1=Zgs es A' B i ->
   ∃(xs:List V) (k:Nat),(A'.length:Int)=(k:Int)/\Hx sp=some (HO.lst xs)/\k<=xs.length/\tyV K "list" (V.ref sp) (upd Hx sp (HO.lst (List.take k xs)))/\∃x,upd Hx sp (HO.lst (List.take k xs)) sp=some (HO.lst x)/\x.length<sizeLine/\Q V.non (upd (upd Hx sp (HO.lst (List.take k xs))) sp (HO.lst (x++[V.int (i:Nat)]))):=by
  intro es1 Hx h1 h2 h3 h4
  refine⟨_,A'.length,rfl,h3,hle,Z6 Zc,_,Zc,by rw[etk];exact hb1,k1 _ (λb o n1 n2 z=>by rw[Zj n2,Zj n2];exact h1 b o n1 n2 z) (by rw[Zj hne,Zj hne,h2,h4]) (by rw[Zc,etk,esn])⟩
 -- elders[place]=spine[keep-1]
 have mid:∀(es1:List Int) (Hx:Hp),(∀b o,b≠el->b≠sp->H b=some o->Hx b=some o)->Hx el=some (.lst (es1.map V.int))->es1.length=es.length->Hx sp=some (.lst (Zy (A'++B)))->∀q,A'.getLast?=some q->es1.set i (q:Int)=Zgs es A' B i ->
   ∃x,SqL K Hx sp x/\∃x_1,atI x ((A'.length:Int)-1)=some x_1/\∃x,Hx el=some (HO.lst x)/\∃x_2,ixN x.length (i:Int)=some x_2/\∃(xs:List V) (k:Nat),(A'.length:Int)=(k:Int)/\upd Hx el (HO.lst (x.set x_2 x_1)) sp=some (HO.lst xs)/\k<=xs.length/\tyV K "list" (V.ref sp) (upd (upd Hx el (HO.lst (x.set x_2 x_1))) sp (HO.lst (List.take k xs))) /\
    ∃x_3,upd (upd Hx el (HO.lst (x.set x_2 x_1))) sp (HO.lst (List.take k xs)) sp=some (HO.lst x_3)/\x_3.length<sizeLine/\Q V.non (upd (upd (upd Hx el (HO.lst (x.set x_2 x_1))) sp (HO.lst (List.take k xs))) sp (HO.lst (x_3++[V.int (i:Nat)]))):=by
  intro es1 Hx h1 h2 hl1 h3 q hq h4
  have hpos:0<A'.length:=by
   cases A' with
   |nil=>cases hq
   |cons _ _=>simp
  have hat:(A'++B)[A'.length-1]?=some q:=by
   rw[YZ (by omega)]
   rw[List.getLast?_eq_getElem?]at hq;exact hq
  have ei:((A'.length:Int)-1)=((A'.length-1:Nat):Int):=by omega
  refine⟨_,SqL.of h3,_,by rw[ei];exact Zdk hat,_,h2,i,by rw[Yg,hl1];exact Zlr hi,?_⟩
  have em:(es1.map V.int).set i (V.int (q:Nat))=(es1.set i (q:Int)).map V.int:=by rw[List.map_set]
  rw[em]
  exact fin _ _ (λb o n1 n2 z=>by rw[Zj n1];exact h1 b o n1 n2 z) Zc (by rw[Zj hne.symm];exact h3) h4
 cases B with
 |nil =>
  rw[Yb (by simp)]
  cases hq:A'.getLast? with
  |none =>
   have:A'=[]:=List.getLast?_eq_none_iff.mp hq
   rw[Yb (by rw[this];simp)]
   exact fin es H (λb o _ _ z=>z) hel hsp (by unfold Zgs;rw[hq];rfl)
  |some q =>
   have:A'≠[]:=λz=>by rw[z]at hq;cases hq
   rw[Yd (by have:=List.length_pos_iff.mpr this;omega)]
   exact mid es H (λb o _ _ z=>z) hel rfl hsp q hq (by unfold Zgs;rw[hq];rfl)
 |cons b Br =>
  rw[Yd (by simp;omega)]
  have hat:(A'++b::Br)[A'.length]?=some b:=by rw[YY (Ye _)];simp
  have hbn:b<es.length:=hq b (by simp)
  refine⟨_,SqL.of hsp,_,Zdk hat,_,_,rfl,hel,b,by rw[Yg];exact Zlr hbn,?_⟩
  have em:(es.map V.int).set b (V.int (i:Nat))=(es.set b (i:Int)).map V.int:=by rw[List.map_set]
  rw[em]
  cases hq2:A'.getLast? with
  |none =>
   have:A'=[]:=List.getLast?_eq_none_iff.mp hq2
   rw[Yb (by rw[this];simp)]
   exact fin (es.set b i) _ (λc o n1 n2 z=>by rw[Zj n1];exact z) Zc (by rw[Zj hne.symm];exact hsp) (by unfold Zgs;rw[hq2];rfl)
  |some q =>
   have:A'≠[]:=λz=>by rw[z]at hq2;cases hq2
   rw[Yd (by have:=List.length_pos_iff.mpr this;omega)]
   exact mid (es.set b i) _ (λc o n1 n2 z=>by rw[Zj n1];exact z) Zc (by simp) (by rw[Zj hne.symm];exact hsp) q hq2 (by unfold Zgs;rw[hq2];rfl)
theorem ok_tree_of {f:Addr}{fd:FuncData} (F:Fun K "tree_of" "tree_of" s_tree_of f fd) (Zhd:Callee P w K mg base "settle" 1 ["elders","spine","place","keep"] (sp_settle K mg)) (T:Txt K mg):FnOk P w K mg base (CXE P w) 2 f fd ["row"] (sp_tree_of K mg):=by
 refine F.okX sc_tree_of (λvs H Q E h=>?_) (λcdv A outer s H vs Q E hr h=>?_)
 ·obtain⟨r,ns,rfl,_⟩:=h;rfl
 obtain⟨r,ns,rfl,hS,hn,k1⟩:=h
 refine⟨_,(Zd (Zr (i:=1) sc_tree_of.nd rfl (Or.inl rfl) (Zo op_rep (ZaM (Za (ZgO ZeV Ze) Zb)) (Zp (Zs (K:=K) rfl) rfl T.b_len Yq (Za (pv 0) Zb))))
   (Zd (Zr (i:=2) sc_tree_of.nd rfl (Or.inl rfl) (ZaM Zb))
   (Zd (Za7 (ZbW PassesOwn.never rfl (ZQ rfl T.b_range (Za (Zp (Zs (K:=K) rfl) rfl T.b_len Yq (Za (pv 0) Zb)) Zb)) (Zu (i:=3) sc_tree_of.nd rfl (Or.inl rfl)) (Zd (Zr (i:=4) sc_tree_of.nd rfl (Or.inl rfl) (Zp (Zs (K:=K) rfl) rfl T.b_len Yq (Za (pv 2) Zb)))
   (Zd (Za7 (ZgN PassesOwn.never (PW.pt (Zkg (Zm ZeL (pv 4) Ze (Zt _)) (Zit (Zm ZeL (ZF (ix_q (K:=K) rfl) (pv 0) (ZF ZA (pv 2) (Zo ZbX (pv 4) Ze) (λ_ _=>rfl)) (λ_ _=>rfl)) (ZF (ix_q (K:=K) rfl) (pv 0) (pv 3) (λ_ _=>rfl)) (Zt _))))) (Zf (ps_aug (i:=4) sc_tree_of.nd rfl (Or.inl rfl) Ze ip_sub))))
   (Zf (Z4 (Zh Zhd (hr.mono (by decide)) rfl Zv (Za (pv 1) (Za (pv 2) (Za (pv 3) (Za (pv 4) Zb)))))))))))
   (Zf (Zx (ZaA (ZeC (K:=K) rfl) rfl T.b_tuple Zd9 (Za (pv 1) Zb))))))),?_⟩
 walk_at "rd"
 have eL:(ns.map V.int).length=ns.length:=Yg ..
 refine⟨by decide,λp hp=>⟨_,((Zg.refl H).upd hp).q hS,_,Zc,by omega,by rw[eL];omega,?_,λel hel=>⟨Ys _,λsp hsp=>?_⟩⟩⟩
 ·exact Yj (show _<=1000 by simp;omega) (by decide)
 have s0:Zg H (upd (upd (upd H p (.lst [V.int (-1)])) el (.lst (List.replicate (((ns.map V.int).length:Nat):Int).toNat [V.int (-1)]).flatten)) sp (.lst [])):=(((Zg.refl H).upd hp).Zat hel).Zat hsp
 refine⟨_,s0.q hS,by omega,by rw[eL];omega,?_⟩
 have en:(((ns.map V.int).length:Nat):Int).toNat=ns.length:=by rw[eL];omega
 have hel0:(upd (upd (upd H p (.lst [V.int (-1)])) el (.lst (List.replicate (((ns.map V.int).length:Nat):Int).toNat [V.int (-1)]).flatten)) sp (.lst [])) el=some (.lst ((List.replicate ns.length (-1:Int)).map V.int)):=by
  have:=((Zg.refl _).Zat (o:=.lst []) hsp) el _ Zc
  rw[this,en];simp
 have hsp0:(upd (upd (upd H p (.lst [V.int (-1)])) el (.lst (List.replicate (((ns.map V.int).length:Nat):Int).toNat [V.int (-1)]).flatten)) sp (.lst [])) sp=some (.lst (Zy [])):=Zc
 have nes:el≠sp:=λz=>by
  subst z
  rw[Zc]at hsp;cases hsp
 have zel:H el=none:=((Zg.refl H).upd hp).free hel
 have zsp:H sp=none:=(((Zg.refl H).upd hp).Zat hel).free hsp
 rw[en]at hel0 hsp0 s0⊢
 generalize (upd (upd (upd H p (.lst [V.int (-1)])) el (.lst (List.replicate ns.length [V.int (-1)]).flatten)) sp (.lst []))=H0 at s0 hel0 hsp0⊢
 refine Zbw (λi σ Hx=>∃(es:List Int) (S:List Nat) (v3 v4:Option V),σ=[some (.ref r),some (.ref el),some (.ref sp),v3,v4]/\Zg H Hx/\Hx el=some (.lst (es.map V.int))/\Hx sp=some (.lst (Zy S))/\es.length=ns.length/\Zn0 (nth ns) i S/\(∀p e,p<i->e=es.getD p 0->ZK (nth ns) i p e)/\∀p,i<=p->p<ns.length->es.getD p 0=-1)
  ⟨List.replicate ns.length (-1),[],none,none,rfl,s0,hel0,hsp0,by simp,⟨List.Pairwise.nil,λq=>by simp⟩,λp e hp=>by omega,λp _ hp=>by simp[YB,hp]⟩ ?_ ?_
 ·rintro i σ Hx hi ⟨es,S,v3,v4,rfl,sx,hxe,hxs,hesl,hS2,hE,hE2⟩
  walk_at "rd"
  have hin:i<ns.length:=by omega
  have hSl:S.length<=1000:=by
   rcases Zn4 S i 0 hS2.1 (λq hq=>⟨Ys _,((hS2.2 q).mp hq).1⟩)with z|z
   ·omega
   ·rw[z];simp
  refine⟨_,.inl (SqL.of hxs),?_⟩
  rw[ZE]
  refine ZiN S.length (λj σ Hy=>∃A B,S=A++B/\B.length=j/\(∀q∈B,nth ns i<nth ns q)/\σ=[some (.ref r),some (.ref el),some (.ref sp),some (.int (0+(i:Int))),some (.int (A.length:Nat))]/\Hy=Hx) ⟨S,[],by simp,rfl,(λq hq=>absurd hq (by simp)),rfl,rfl⟩ ?_
  rintro j σ Hy hj ⟨A,B,hAB,hBl,hBg,rfl,rfl⟩
  walk_at "rd"
  have hmem:∀q,q∈A++B->q<i:=λq hq=>((hS2.2 q).mp (by rw[hAB];exact hq)).1
  have hix:(0+(i:Int))=(i:Int):=by omega
  rw[hix]
  by_cases hA0:A=[]
  case' pos =>
   rw[Yb (by rw[hA0];simp)]
   have hA:∀q∈A,nth ns q<=nth ns i:=λq hq=>absurd hq (by rw[hA0];simp)
  case' neg =>
   obtain⟨q,Al,rfl⟩:∃q Al,A=Al++[q]:=⟨A.getLast hA0,A.dropLast,(List.dropLast_concat_getLast hA0).symm⟩
   have hal:(Al++[q]).length=Al.length+1:=by simp
   rw[Yd (by rw[hal];omega)]
   have eiA:(((Al++[q]).length:Nat):Int)-1=(Al.length:Int):=by rw[hal];omega
   have hat:S[Al.length]?=some q:=by
    rw[hAB,YV,YY (Ye _)];simp
   have hqi:q<i:=hmem q (by simp)
   refine⟨_,SqL.of hxs,_,by rw[eiA];exact Zdk hat,_,_,rfl,sx.q hS,_,Zc1 (by omega),_,sx.q hS,_,Zc1 hin,_,rfl,_,rfl,Z5 (λhlt=>?_) (λhge=>?_)⟩
   ·have hj2:j+1<=S.length:=by rw[hAB,Yy,hal];omega
    refine⟨_,WI.next,hj2,Al,q::B,by rw[hAB];simp,by simp[hBl],λx hx=>?_,by rw[eiA],rfl⟩
    rcases Yk.mp hx with z|z
    ·rw[z];exact hlt
    ·exact hBg x z
   have hA:∀x∈Al++[q],nth ns x<=nth ns i:=λx hx=>by
    by_cases z:x=q
    ·rw[z];omega
    ·have hxa:x∈Al:=by
      rcases Yz.mp hx with y|y
      ·exact y
      ·exact absurd (by simpa using y) z
     have hpw:=hS2.1
     rw[hAB]at hpw
     have hxq:x<q:=(List.pairwise_append.mp (List.pairwise_append.mp hpw).1).2.2 x hxa q (by simp)
     have:=((hS2.2 x).mp (by rw[hAB];exact YI _ hx)).2 q hxq hqi
     omega
   generalize Al++[q]=A at hA hAB hmem hA0⊢
  all_goals
   have SS:=Zkv (f:=nth ns) (i:=i) (A:=A) (B:=B) (by rw[<-hAB];exact hS2) hA hBg
   refine⟨el,sp,es,A,B,i,rfl,hxe,by rw[<-hAB];exact hxs,nes,by omega,λq hq=>by have:=hmem q hq;omega,by rw[<-hAB];exact hSl,λH' q1 q2 q3=>?_⟩
   have hbi:∀b,B.head?=some b->b≠i:=λb hb=>by
    have:=hmem b (Yv _ (List.mem_of_head? hb));omega
   refine⟨λb o z=>q1 b o (Zw z zel) (Zw z zsp) (sx b o z),Zgs es A B i,q2,A++[i],q3,by rw[Zn3];exact hesl,SS.1,λp e hp he=>?_,λp hp1 hp2=>?_⟩
   ·rw[Zlq _ _ _ _ _ (by omega) hbi]at he
    by_cases z:p=i
    ·subst z
     rw[Yd rfl,hE2 p (Ye _) (by omega)]at he
     rw[he];exact SS.2.1
    ·rw[Yb z]at he
     rw[he]
     exact SS.2.2 p _ (by omega) (hE p _ (by omega) rfl)
   ·rw[Zlq _ _ _ _ _ (by omega) hbi,Yb (by omega),Yb (λz=>?_)]
    ·exact hE2 p (by omega) hp2
    ·have:=hmem p (Yv _ (List.mem_of_head? z));omega
 ·rintro σ Hx ⟨es,S,v3,v4,rfl,sx,hxe,hxs,hesl,hS2,hE,hE2⟩
  walk_at "rd"
  exact⟨_,.inl ⟨SqL.of hxe,λt ht=>k1 t es _ ⟨hesl,λp hp=>hE p _ hp rfl⟩ (sx.Zat ht) Zc⟩⟩
theorem ok_way_up {f:Addr}{fd:FuncData} (F:Fun K "way_up" "way_up" s_way_up f fd) (T:Txt K mg):FnOk P w K mg base (CXE P w) 1 f fd ["tree","place"] (sp_way_up K mg):=by
 refine F.okX sc_way_up (λvs H Q E h=>?_) (λcdv A outer s H vs Q E hr h=>?_)
 ·obtain⟨t,T,p,rfl,_⟩:=h;rfl
 obtain⟨t,T',p,rfl,ht,hn,hp,k1⟩:=h
 refine⟨_,(Zd (Zr (i:=2) sc_way_up.nd rfl (Or.inl rfl) (ZaM Zb))
   (Zd (Zr (i:=3) sc_way_up.nd rfl (Or.inl rfl) (ZF Zby (pv 0) (pv 1) (λ_ _=>rfl)))
   (Zd (Za7 (ZgN PassesOwn.never (PW.pt (Zkg (ZnH ZnG Zga Ze (pv 3) (Zp (Zs (K:=K) rfl) rfl T.b_len Yq (Za (pv 0) Zb))) (Zit (Zm Zga (Zp (Zs (K:=K) rfl) rfl T.b_len Yq (Za (pv 2) Zb)) (Zp (Zs (K:=K) rfl) rfl T.b_len Yq (Za (pv 0) Zb)) (Zt _))))) (Zd (Z4 (Zdj PySem.F.plainAttrs_list PySem.F.slot_list_append PySem.F.type_list_append Zap (pv 2) (Za (pv 3) Zb)))
   (Zf (Zr (i:=3) sc_way_up.nd rfl (Or.inl rfl) (ZF Zby (pv 0) (pv 3) (λ_ _=>rfl)))))))
   (Zf (Zx (pv 2)))))),?_⟩
 walk_at "rd"
 refine⟨Ys _,λl hl=>⟨_,SqT.of (((Zg.refl H).upd hl) _ _ ht),_,Zc1 hp,?_⟩⟩
 refine ZiN T'.length (λj σ Hx=>Zg H Hx/\Hx l=some (.lst (Zy (Za8 T' j (nth T' p))))/\(Za8 T' j (nth T' p)).length=j/\σ=[some (.ref t),some (.int p),some (.ref l),some (.int (ZaL T' j (nth T' p)))]) ⟨(Zg.refl H).upd hl,Zc,rfl,rfl⟩ ?_
 rintro j σ Hx hj ⟨sx,hxl,hjl,rfl⟩
 walk_at "rd"
 have hlen:(Zy (Za8 T' j (nth T' p))).length=j:=by rw[ZE];exact hjl
 have eL:(T'.map V.int).length=T'.length:=Yg ..
 have done:(j=T'.length\/¬ (0<=ZaL T' j (nth T' p)/\ZaL T' j (nth T' p)<T'.length))->Q (.ref l) Hx:=λz=>by
  refine k1 l Hx hl sx ?_
  have:Za8 T' T'.length (nth T' p)=Za8 T' j (nth T' p):=by
   rcases z with z|z
   ·rw[<-z]
   ·exact Zh8 T' j _ _ hj hjl z
  rw[hxl];unfold wayI;rw[this];simp[Zy]
 refine Z5 (λh0=>⟨_,.inr (SqT.of (sx _ _ ht)),Z5 (λh1=>⟨_,.inl (SqL.of hxl),_,.inr (SqT.of (sx _ _ ht)),Z5 (λh2=>?_) λh2=>done (.inl (by rw[hlen,eL]at h2;omega))⟩) λh1=>done (.inr (by rw[eL]at h1;omega))⟩) λh0=>done (.inr (by omega))
 rw[eL]at h1;rw[hlen,eL]at h2
 obtain⟨a1,a2⟩:=Zh7 T' j (nth T' p) h0 h1 hjl
 have ei:ZaL T' j (nth T' p)=(((ZaL T' j (nth T' p)).toNat:Nat):Int):=by omega
 have nlt:t≠l:=Zw ht hl
 refine⟨_,WI.next,Z6 hxl,_,hxl,by rw[hlen];exact YA (show _<=1000 by omega) (by decide),_,SqT.of (by rw[Zj nlt];exact sx _ _ ht),_,(congrArg (atI _) ei).trans (Zc1 (by omega)),by omega,sx.upd hl,?_,?_,?_⟩
 ·rw[Zc,a1,ZeD]
  have:Zy [(ZaL T' j (nth T' p)).toNat]=[V.int (ZaL T' j (nth T' p))]:=by rw[ei];simp[Zy]
  rw[this]
 ·rw[a1];simp[hjl]
 ·rw[a2]
theorem ok_fences_of {f:Addr}{fd:FuncData} (F:Fun K "fences_of" "fences_of" s_fences_of f fd) (Zhe:Callee P w K mg base "way_up" 1 ["tree","place"] (sp_way_up K mg)) (T:Txt K mg):FnOk P w K mg base (CXE P w) 2 f fd ["tree"] (sp_fences_of K mg):=by
 refine F.okX sc_fences_of (λvs H Q E h=>?_) (λcdv A outer s H vs Q E hr h=>?_)
 ·obtain⟨t,ns,T,rfl,_⟩:=h;rfl
 obtain⟨t,ns,T',rfl,ht,hT,hn,k1⟩:=h
 refine⟨_,(Zd (Zr (i:=1) sc_fences_of.nd rfl (Or.inl rfl) (ZaM Zb))
   (Zd (Za7 (ZbW PassesOwn.never rfl (ZQ rfl T.b_range (Za (Zp (Zs (K:=K) rfl) rfl T.b_len Yq (Za (pv 0) Zb)) Zb)) (Zu (i:=2) sc_fences_of.nd rfl (Or.inr rfl)) (Zd (Zr (i:=3) sc_fences_of.nd rfl (Or.inl rfl) (Zh Zhe (hr.mono (by decide)) rfl Zv (Za (pv 0) (Za (pv 2) Zb))))
   (Zd (Zr (i:=4) sc_fences_of.nd rfl (Or.inl rfl) (ZpD (K:=K) rfl rfl rfl T.b_max (Za (ZbS ["elder","place"] [none,some 2] rfl rfl rfl (ZgH (pv 3)) (λ_ _ _ _ _=>(Zu (i:=0) (show(["elder","place"]:List Str).Nodup from by decide +kernel) rfl (Or.inl rfl))) (λ_ _ _ _ _=>Zd8 (Zm Zga (pv 0) (pv 1) (Zt _))) (λ_ _ _ _ _=>(pv 0)) ZH) Zb) (Zlb (ZgO ZeV Ze) ZnI)))
   (Zd (Zr (i:=5) sc_fences_of.nd rfl (Or.inl rfl) (ZpE (K:=K) rfl rfl rfl T.b_min (Za (ZbS ["elder","place"] [none,some 2] rfl rfl rfl (ZgH (pv 3)) (λ_ _ _ _ _=>(Zu (i:=0) (show(["elder","place"]:List Str).Nodup from by decide +kernel) rfl (Or.inl rfl))) (λ_ _ _ _ _=>Zd8 (Zm ZeL (pv 0) (pv 1) (Zt _))) (λ_ _ _ _ _=>(pv 0)) ZH) Zb) (Zlb (Zp (Zs (K:=K) rfl) rfl T.b_len Yq (Za (pv 0) Zb)) ZnI)))
   (Zf (Z4 (Zdj PySem.F.plainAttrs_list PySem.F.slot_list_append PySem.F.type_list_append Zap (pv 1) (Za (Zd5 (Za (pv 4) (Za (pv 5) Zb))) Zb)))))))))
   (Zf (Zx (pv 1))))),?_⟩
 walk_at "rd"
 have eT:T'.length=ns.length:=hT.1
 have eL:(T'.map V.int).length=T'.length:=Yg ..
 refine⟨Ys _,λp hp=>?_⟩
 have s0:Zg H (upd H p (.lst [])):=(Zg.refl H).upd hp
 refine⟨_,.inr (SqT.of (s0 _ _ ht)),by omega,by rw[eL];omega,?_⟩
 have en:(((T'.map V.int).length:Nat):Int).toNat=ns.length:=by rw[eL];omega
 rw[en]
 have h0:ZaR (upd H p (.lst [])) p 0 (λp=>(Zeb (nth ns) p,Zfm (nth ns) ns.length p)):=⟨[],Zc,rfl,λj q hq=>by simp at hq⟩
 generalize upd H p (.lst [])=H0 at s0 h0⊢
 refine Zbw (λi σ Hx=>∃v2 v3 v4 v5,σ=[some (.ref t),some (.ref p),v2,v3,v4,v5]/\ZaR Hx p i (λp=>(Zeb (nth ns) p,Zfm (nth ns) ns.length p))/\Zg H Hx) ⟨_,_,_,_,rfl,h0,s0⟩ ?_ ?_
 ·rintro i σ Hx hi ⟨v2,v3,v4,v5,rfl,hP,sx⟩
  have e0:((0:Int)+(i:Int))=(i:Int):=by omega
  rw[e0]
  have hpi:i<ns.length:=hi
  have hw1:(wayI T' i).length<=1000:=by simp only[wayI,Yg];exact Yj (Zjx _ _ _) (by omega)
  refine ZaO (fun σ Hy=>∃w:Addr,σ=[some (.ref t),some (.ref p),some (.int (i:Int)),some (.ref w),v4,v5]/\Hy w=some (.lst ((wayI T' i).map V.int))/\ZaR Hy p i (λp=>(Zeb (nth ns) p,Zfm (nth ns) ns.length p))/\Zg H Hy) (λR hR=>?_) ?_
  ·walk_at "rd"
   exact⟨t,T',i,rfl,sx _ _ ht,by omega,by omega,λw H1 hw s1 h1=>hR _ _ ⟨w,rfl,h1,hP.same s1,sx.trans s1⟩⟩
  rintro σ Hy ⟨w,rfl,hw,hP1,sy⟩
  refine ZaO (fun σ Hz=>σ=[some (.ref t),some (.ref p),some (.int (i:Int)),some (.ref w),some (.int (Zeb (nth ns) i)),v5]/\Hz w=some (.lst ((wayI T' i).map V.int))/\ZaR Hz p i (λp=>(Zeb (nth ns) p,Zfm (nth ns) ns.length p))/\Zg H Hz) (λR hR=>?_) ?_
  ·walk_at "rd"
   refine⟨⟨_,SqL.of hw⟩,Zib (λo=>decide (o<(i:Int))) hw hw1 (λx Hy R hR=>?_) λl H2 s2 hl=>?_⟩
   ·walk_at "rd"
    exact hR
   have FA:=Zn7 hT hpi
   have g:=s2.Zat (o:=.lst (((wayI T' i).filter λo=>decide (o<(i:Int))).map V.int)) hl
   refine⟨l,rfl,_,SqL.of Zc,λe=>?_,λhne m hm hmax=>?_⟩
   ·rw[<-FA.1 e]
    exact hR _ _ ⟨rfl,g _ _ hw,hP1.same g,sy.trans g⟩
   ·rw[FA.2 hne m hm hmax]
    exact hR _ _ ⟨rfl,g _ _ hw,hP1.same g,sy.trans g⟩
  clear hw hP1 sy Hy
  rintro σ Hy ⟨rfl,hw,hP1,sy⟩
  refine ZaO (fun σ Hz=>σ=[some (.ref t),some (.ref p),some (.int (i:Int)),some (.ref w),some (.int (Zeb (nth ns) i)),some (.int (Zfm (nth ns) ns.length i))]/\ZaR Hz p i (λp=>(Zeb (nth ns) p,Zfm (nth ns) ns.length p))/\Zg H Hz) (λR hR=>?_) ?_
  ·walk_at "rd"
   refine⟨⟨_,SqL.of hw⟩,Zib (λo=>decide ((i:Int)<o)) hw hw1 (λx Hy R hR=>?_) λl H2 s2 hl=>?_⟩
   ·walk_at "rd"
    exact hR
   have FB:=Zn8 hT hpi
   have g:=s2.Zat (o:=.lst (((wayI T' i).filter λo=>decide ((i:Int)<o)).map V.int)) hl
   refine⟨_,.inr (SqT.of ((sy.trans g) _ _ ht)),l,rfl,_,SqL.of Zc,λe=>?_,λhne m hm hmin=>?_⟩
   ·rw[eL,eT,<-FB.1 e]
    exact hR _ _ ⟨rfl,hP1.same g,sy.trans g⟩
   ·rw[FB.2 hne m hm hmin]
    exact hR _ _ ⟨rfl,hP1.same g,sy.trans g⟩
  clear hw hP1 sy Hy
  rintro σ Hy ⟨rfl,hP1,sy⟩
  walk_at "rd"
  obtain⟨qs,hq1,hq2,hq3⟩:=id hP1
  refine⟨Z6 hq1,by decide,λq hq=>?_⟩
  have g:=(Zg.refl Hy).upd (o:=.tup [.int (Zeb (nth ns) i),.int (Zfm (nth ns) ns.length i)]) hq
  obtain⟨xs,hx1,hx2,hx3⟩:=(hP1.same g).push (q:=q) Zc
  have zp:H p=none:=hp
  refine⟨xs,hx1,YA (show _<=1000 by omega) (by decide),hx3,λb o z=>?_⟩
  rw[Zj (Zw z zp)]
  exact(sy.trans g) b o z
 ·rintro σ Hx ⟨v2,v3,v4,v5,rfl,hP,sx⟩
  walk_at "rd"
  exact k1 p Hx sx hP
theorem ZfO {f:Addr}{fd:FuncData} (F:Fun K "distance_list" "distance_list" ZW f fd) (Zee:Callee P w K mg base "fences_of" 2 ["tree"] (sp_fences_of K mg)) (T:Txt K mg):FnOk P w K mg base (CXE P w) 3 f fd ["tree"] (ZbC K mg):=by
 refine F.okX ZfL (λvs H Q E h=>?_) (λcdv A outer s H vs Q E hr h=>?_)
 ·obtain⟨t,ns,T,rfl,_⟩:=h;rfl
 obtain⟨t,ns,T',rfl,ht,hT,hn,k1⟩:=h
 refine⟨_,(Zf (Zx (ZbS ["place","ahead","behind"] [none,none,none] rfl rfl rfl (Zfl (K:=K) rfl rfl T.b_enumerate (Za (Zh Zee (hr.mono (by decide)) rfl Zv (Za (pv 0) Zb)) Zb)) (λ_ _ _ _ _=>(ZiI (K:=K) (n:=2) rfl rfl (Zal (Zu (i:=0) (show(["place","ahead","behind"]:List Str).Nodup from by decide +kernel) rfl (Or.inl rfl)) (Zal (ZiI (K:=K) (n:=2) rfl rfl (Zal (Zu (i:=1) (show(["place","ahead","behind"]:List Str).Nodup from by decide +kernel) rfl (Or.inl rfl)) (Zal (Zu (i:=2) (show(["place","ahead","behind"]:List Str).Nodup from by decide +kernel) rfl (Or.inl rfl)) ZeB))) ZeB)))) (λ_ _ _ _ _=>ZbR) (λ_ _ _ _ _=>(Zje (Zm op_ge (pv 1) Ze (Zt _)) (Zo ZbX (pv 0) (pv 1)) Ze)) (ZgR (Zcv ZH (Zcv (ZgR (Zcv ZH (Zcv ZH ZgQ))) ZgQ)))))),?_⟩
 walk_at "rd"
 refine⟨t,ns,T',rfl,ht,hT,hn,λl H1 s1 hP=>?_⟩
 obtain⟨qs,h1,h2,h3⟩:=hP
 refine⟨l,rfl,_,SqL.of h1,comp_map (n:=ns.length) (λq=>V.int (ZP (nth ns) q)) (YA (show _<=1000 by omega) (by decide)) (λj Hx s hj=>⟨_,_,SqL.of (s _ _ h1),Yf (by simpa[h2]using hj)⟩) (λHx s=>⟨_,SqL.of (s _ _ h1),by simp[h2]⟩) ?_ ?_⟩
 ·rintro j x Hx Hy hj s ⟨p,x,hp,rfl,rfl,hx⟩
  have hx1:=hx _ (SqL.of (s _ _ h1))
  obtain⟨q,hq⟩:∃q,qs[j]?=some q:=⟨qs[j]'(by omega),Yf (by omega)⟩
  rw[Yw,hq]at hx1
  cases hx1
  have hq1:=s _ _ (h3 j q hq)
  have hq2:=((Zg.refl Hx).upd (o:=.tup [.int (j:Int),.ref q]) hp) _ _ hq1
  walk_at "rd"
  refine⟨_,SqT.of Zc,rfl,_,_,rfl,_,_,rfl,_,rfl,_,SqT.of hq2,rfl,_,_,rfl,_,_,rfl,rfl,rfl,_,rfl,Z5 (λz=>⟨_,rfl,_,rfl,CW.next hj ?_ (s.Zat hp)⟩) λz=>CW.next hj ?_ (s.Zat hp)⟩
  ·unfold ZP;rw[Yd z]
  ·unfold ZP;rw[Yb z]
 ·intro l' Hx s hl'
  have ed:(List.range ns.length).map (λq=>V.int (ZP (nth ns) q))=(Zcn ns).map V.int:=by simp[Zcn]
  rw[ed]
  exact k1 l' _ ((s1.trans s).free hl') ((s1.trans s).Zat hl') Zc
theorem ZfP {f:Addr}{fd:FuncData} (F:Fun K "row_distances" "row_distances" ZX f fd) (ZfT:Callee P w K mg base "tree_of" 2 ["row"] (sp_tree_of K mg)) (Zb3:Callee P w K mg base "distance_list" 3 ["tree"] (ZbC K mg)) (T:Txt K mg):FnOk P w K mg base (CXE P w) 4 f fd ["row"] (ZaG K mg):=by
 refine F.okX ZfM (λvs H Q E h=>?_) (λcdv A outer s H vs Q E hr h=>?_)
 ·obtain⟨r,ns,rfl,_⟩:=h;rfl
 obtain⟨r,ns,rfl,hS,hn,k1⟩:=h
 refine⟨_,(Zf (Zx (Zh Zb3 (hr.mono (by decide)) rfl Zv (Za (Zh ZfT (hr.mono (by decide)) rfl Zv (Za (pv 0) Zb)) Zb)))),?_⟩
 walk_at "rd"
 exact⟨r,ns,rfl,hS,hn,λt es H1 hT s1 ht=>⟨t,ns,es,rfl,ht,hT,hn,λl H2 zl s2 hl=>k1 l _ (s1.free zl) (s1.trans s2) hl⟩⟩
theorem Zg7 {f:Addr}{fd:FuncData} (F:Fun K "seen_within" "seen_within" Zaq f fd) (T:Txt K mg):FnOk P w K mg base (CXE P w) 1 f fd ["distance","size"] (ZcC K mg):=by
 refine F.okX Zg5 (λvs H Q E h=>?_) (λcdv A outer s H vs Q E hr h=>?_)
 ·obtain⟨d,k,rfl,_⟩:=h;rfl
 obtain⟨d,k,rfl,k1⟩:=h
 refine⟨_,(Zf (Zx (Zje (Zm ZnG (pv 0) (pv 1) (Zt _)) (pv 0) Ze))),?_⟩
 walk_at "rd"
 unfold sw at k1
 by_cases h:d<=k
 ·rw[Yd h]at k1⊢;exact k1
 ·rw[Yb h]at k1⊢;exact k1
theorem Zg8 {f:Addr}{fd:FuncData} (F:Fun K "_law_either" "_law_either" Zar f fd) (Zq:Callee P w K mg base "_law_take" 1 ["pot","many"] (ZaF K mg)) (T:Txt K mg):FnOk P w K mg base (CXE P w) 2 f fd ["pot","some"] (ZcD K mg):=by
 refine F.okX Zg6 (λvs H Q E h=>?_) (λcdv A outer s H vs Q E hr h=>?_)
 ·obtain⟨p,r,ns,rfl,_⟩:=h;rfl
 obtain⟨p,r,ns,rfl,hP,nrp,hr1,hn,k1⟩:=h
 refine⟨_,(Zf (Zx (ZF Zby (Zd5 (Za (ZaA (Zdr (K:=K) rfl) rfl T.b_list Zfh (Za (pv 1) Zb)) (Za (ZaA (ZeC (K:=K) rfl) rfl T.b_tuple Zd9 (Za (pv 1) Zb)) Zb))) (Zh Zq (hr.mono (by decide)) rfl Zv (Za (pv 0) (Za Ze Zb))) (λ_ _=>rfl)))),?_⟩
 walk_at "rd"
 refine⟨_,.inl (SqL.of hr1),λl hl=>?_⟩
 have g1:=(Zg.refl H).upd (o:=.lst (ns.map V.int)) hl
 refine⟨_,.inl ⟨SqL.of (g1 _ _ hr1),λl2 hl2=>⟨by decide,λc hc=>?_⟩⟩⟩
 have g2:=(Zg.refl _).upd (o:=.tup (ns.map V.int)) hl2
 have g3:=(Zg.refl _).upd (o:=.tup [V.ref l,V.ref l2]) hc
 have gg:=(g1.trans g2).trans g3
 have hl3:=(g2.trans g3) _ _ (Zc (H:=H) (a:=l) (o:=.lst (ns.map V.int)))
 have hl23:=g3 _ _ (Zc (a:=l2) (o:=.tup (ns.map V.int)) (H:=upd H l (.lst (ns.map V.int))))
 have nlp:l≠p:=hP.ne hl
 have nl2p:l2≠p:=(hP.same g1).ne hl2
 have ncp:c≠p:=(hP.same (g1.trans g2)).ne hc
 refine⟨p,_,rfl,by decide,by decide,hP.same gg,λd H2 d0 d1 P2 e2=>⟨_,d,rfl,SqT.of (e2 _ _ ncp Zc),?_⟩⟩
 have ex:=(Zg.refl H).Zlj.same gg |>.trans e2
 rcases(by omega:d=0\/d=1)with rfl|rfl
 ·exact⟨_,rfl,k1 l H2 hl (.inl (e2 _ _ nlp hl3)) P2 ex⟩
 ·exact⟨_,rfl,k1 l2 H2 (g1.free hl2) (.inr (e2 _ _ nl2p hl23)) P2 ex⟩
theorem ZkK (xs:List Int):(xs.map (Sum.inl:Int->Key)).map kV=xs.map V.int:=by rw[YU];rfl
theorem ZkL:∀{xs ys:List Int},xs.map (Sum.inl:Int->Key)=ys.map Sum.inl->xs=ys
 |[],[],_=>rfl
 |[],_::_,h=>by cases h
 |_::_,[],h=>by cases h
 |x::xs,y::ys,h=>by
  rw[YC,YC]at h
  injection h with h1 h2
  injection h1 with h1
  rw[h1,ZkL h2]
noncomputable def Zc7 (H0 H:Hp) (p:Addr) (ns:List Int) (c j:Nat):Prop:=∃(kvs:List (List Key×V)) (as:List Addr),H p=some (.dT kvs)/\kvs.map (·.1)=(Zi (Zl ns c) j).map (λf=>(ZC ns c f).map Sum.inl)/\kvs.map (·.2)=as.map V.ref/\as.Nodup/\(∀i (h1:i<as.length) (h2:i<(Zi (Zl ns c) j).length),H as[i]=some (.lst (Zy (Zc3 (Zl ns c) j (Zi (Zl ns c) j)[i]))))/\(∀a∈as,H0 a=none)
theorem Zc7.same {H0 H H':Hp}{p:Addr}{ns:List Int}{c j:Nat} (h:Zc7 H0 H p ns c j) (s:Zg H H'):Zc7 H0 H' p ns c j:=by
 obtain⟨kvs,as,h1,h2,h3,h4,h5,h6⟩:=h
 exact⟨kvs,as,s _ _ h1,h2,h3,h4,λi a b=>s _ _ (h5 i a b),h6⟩
theorem Zn {ns:List Int}{c a b:Nat}:Zl ns c a b=true↔ZC ns c a=ZC ns c b:=decide_eq_true_iff
theorem Zmj {ns:List Int}{c j f g:Nat} (hf:f∈Zi (Zl ns c) j) (hg:g∈Zi (Zl ns c) j) (e:ZC ns c f=ZC ns c g):f=g:=by
 have h1:=(Zag.mp hf).2
 have h2:=(Zag.mp hg).2
 rcases Nat.lt_trichotomy f g with h|h|h
 ·have:=h2 f h;rw[Zn.mpr e]at this;cases this
 ·exact h
 ·have:=h1 g h;rw[Zn.mpr e.symm]at this;cases this
theorem ZgZ (xs:List Nat) (j:Nat):Zy (xs++[j])=Zy xs++[V.int (j:Int)]:=by unfold Zy;rw[YD];rfl
theorem Zoq (E:Nat->Nat->Bool) (j f:Nat):(Zc3 E j f).length<=j:=by
 unfold Zc3
 refine Yj (Y3 _ _) ?_
 rw[Y1];exact Ye _
theorem Zc7.old {H0 H:Hp}{p:Addr}{ns:List Int}{c j:Nat} (hG:Zc7 H0 H p ns c j) {kvs:List (List Key×V)} (hp:H p=some (.dT kvs)) {v:V} (hv:Zbz kvs ((ZC ns c j).map Sum.inl)=some v) :
  ∃a xs,v=.ref a/\a≠p/\H0 a=none/\H a=some (.lst xs)/\xs.length<=j/\Zc7 H0 (upd H a (.lst (xs++[V.int (j:Int)]))) p ns c (j+1):=by
 obtain⟨kvs',as,h1,h2,h3,h4,h5,h6⟩:=hG
 rw[h1]at hp;cases hp
 obtain⟨i,hi,e⟩:=ZiV hv
 have l1:kvs.length=(Zi (Zl ns c) j).length:=by simpa using congrArg List.length h2
 have l2:kvs.length=as.length:=by simpa using congrArg List.length h3
 have hF:i<(Zi (Zl ns c) j).length:=by omega
 have hA:i<as.length:=by omega
 have e1:(ZC ns c (Zi (Zl ns c) j)[i]).map (Sum.inl:Int->Key)=(ZC ns c j).map Sum.inl:=by
  have:=congrArg (λ(l:List (List Key))=>l[i]?) h2
  simp only[Yw,Yf hi,Yf hF,Option.map_some,e]at this
  exact(Yo this).symm
 have e2:v=V.ref as[i]:=by
  have:=congrArg (λ(l:List V)=>l[i]?) h3
  simp only[Yw,Yf hi,Yf hA,Option.map_some,e]at this
  exact Yo this
 have ek:=ZkL e1
 have mF:=YM hF
 have lF:=(Zag.mp mF).1
 have eF:Zi (Zl ns c) (j+1)=Zi (Zl ns c) j:=Zgc lF (Zn.mpr ek)
 have hL:=h5 i hA hF
 have np:as[i]≠p:=λz=>by rw[z,h1]at hL;cases hL
 refine⟨as[i],_,e2,np,h6 _ (YM hA),hL,by rw[ZE];exact Zoq _ _ _,kvs,as,by rw[Zj (Ne.symm np)];exact h1,by rw[eF];exact h2,h3,h4,λi' a b=>?_,h6⟩
 have b':i'<(Zi (Zl ns c) j).length:=by rw[eF]at b;exact b
 have eg:(Zi (Zl ns c) (j+1))[i']=(Zi (Zl ns c) j)[i']:=by simp only[eF]
 rw[eg,Zif]
 by_cases z:i'=i
 ·subst z
  rw[Zc,Yd (Zn.mpr ek.symm),ZgZ]
 ·rw[Zj (λy=>z ((List.getElem_inj h4).mp y)),Yb,List.append_nil]
  ·exact h5 i' a b'
  ·intro y
   have:=Zmj (YM b') mF ((Zn.mp y).symm.trans ek.symm)
   exact z ((List.getElem_inj (ZhE _ _)).mp this)
theorem Zc7.new {H0 Hb H:Hp}{p l:Addr}{ns:List Int}{c j:Nat} (hG:Zc7 H0 Hb p ns c j) (s:Zg Hb H) (hlb:Hb l=none) (hl:H l=some (.lst [])) (hl0:H0 l=none) {kvs:List (List Key×V)} (hp:H p=some (.dT kvs)) (hv:Zbz kvs ((ZC ns c j).map Sum.inl)=none) :
  Zc7 H0 (upd (upd H p (.dT (kvs++[((ZC ns c j).map Sum.inl,V.ref l)]))) l (.lst ([]++[V.int (j:Int)]))) p ns c (j+1):=by
 obtain⟨kvs',as,h1,h2,h3,h4,h5,h6⟩:=hG
 have h1':=s _ _ h1
 rw[h1']at hp;cases hp
 have nlp:p≠l:=λz=>by rw[z,hlb]at h1;cases h1
 have l1:kvs.length=(Zi (Zl ns c) j).length:=by simpa using congrArg List.length h2
 have l2:kvs.length=as.length:=by simpa using congrArg List.length h3
 have no:=ZjJ hv
 rw[h2]at no
 have noE:∀b,b<j->Zl ns c b j=false:=by
  intro b hb
  rw[Bool.eq_false_iff];intro z
  obtain⟨f,f1,f2,f3⟩:=Ze2 (E:=Zl ns c) (λa b c h1 h2=>Zn.mpr ((Zn.mp h1).trans (Zn.mp h2))) (λa=>Zn.mpr rfl) j b hb
  have e:ZC ns c f=ZC ns c j:=(Zn.mp f2).trans (Zn.mp z)
  exact no (YQ.mpr ⟨f,f1,by rw[e]⟩)
 have eF:=Zgd noE
 have nin:l∉as:=λz=>by
  obtain⟨i,hi,e⟩:=Y2 z
  have:=h5 i hi (by omega)
  rw[e,hlb]at this;cases this
 refine⟨_,as++[l],by rw[Zj nlp,Zc],by rw[eF,YD,YD,h2];rfl,by rw[YD,YD,h3];rfl,Zlx h4 nin,λi a b=>?_,λa ha=>?_⟩
 ·have b':i<(Zi (Zl ns c) j++[j]).length:=by rw[<-eF];exact b
  have eg:(Zi (Zl ns c) (j+1))[i]=(Zi (Zl ns c) j++[j])[i]:=by simp only[eF]
  rw[eg,Zif]
  by_cases z:i<as.length
  ·have z':i<(Zi (Zl ns c) j).length:=by omega
   rw[Y5 z,Y5 z']
   have h7:=h5 i z z'
   have nl:as[i]≠l:=λy=>nin (y▸YM z)
   rw[Zj nl,Zj (λy=>by rw[y,h1]at h7;cases h7),Yb,List.append_nil]
   ·exact s _ _ h7
   ·intro y
    have:=noE _ (Zag.mp (YM z')).1
    rw[Zn.mpr (Zn.mp y).symm]at this;cases this
  ·have ei:i=as.length:=by simp at a;omega
   subst ei
   rw[Y6 (Ye _)]
   simp only[Nat.sub_self,List.getElem_cons_zero]
   have e3:(Zi (Zl ns c) j++[j])[as.length]=j:=by
    rw[Y6 (by omega)]
    simp only[show as.length-(Zi (Zl ns c) j).length=0 by omega,List.getElem_cons_zero]
   rw[e3,Zc,Yd (Zn.mpr rfl)]
   have e4:Zc3 (Zl ns c) j j=[]:=by
    unfold Zc3
    rw[List.filter_eq_nil_iff]
    intro b hb
    rw[noE b (Yx.mp hb)];exact Yr
   rw[e4];rfl
 ·rcases Yz.mp ha with ha|ha
  ·exact h6 a ha
  ·rw[Y0.mp ha];exact hl0
theorem ZkM {ns:List Int}{c i:Nat} (h:i<(Zcq ns c).length) (h2:i<(Zi (Zl ns c) (Zk ns.length c)).length):(Zcq ns c)[i]=Zc3 (Zl ns c) (Zk ns.length c) (Zi (Zl ns c) (Zk ns.length c))[i]:=List.getElem_map _
theorem ZkN {ns:List Int}{c a b:Nat} (ha:a+c<=ns.length) (hb:b+c<=ns.length) {S T:List Int} (h1:ZG (ZdY ns a c) S) (h2:ZG (ZdY ns b c) T):Zl ns c a b=decide (S=T):=by
 have la:=Zdl ha
 have lb:=Zdl hb
 have key:ZC ns c a=ZC ns c b↔Zl9 (nth (ZdY ns a c)) (nth (ZdY ns b c)) c:=by
  constructor
  ·intro h i hi
   rw[ZbT hi,ZbT hi]
   have:=congrArg (λ(l:List Int)=>l[i]?) h
   simpa[ZC,hi]using this
  ·intro h
   unfold ZC
   refine List.map_congr_left λi hi=>?_
   have hi:=Yx.mp hi
   have:=h i hi
   rw[ZbT hi,ZbT hi]at this
   exact this
 unfold Zl
 rw[decide_eq_decide,key]
 constructor
 ·intro h
  have:=h.lows
  exact((ZiQ h1 h2).mp ⟨by rw[la,lb],by rw[la];exact this⟩).2
 ·rintro rfl
  have:=ZgY h1 h2
  rw[la]at this;exact this
theorem Zor (ns:List Int) {c a:Nat} (e:a+c<=ns.length):(ZdY (Zcn ns) a c).map V.int=(List.range c).map (λi=>V.int (ZP (nth ns) (a+i))):=by
 refine(List.ext_getElem (by rw[Yg,Zdl (by rw[ZfI];omega),Yg,Y1]) λj h1 h2=>?_)
 have hj:j<c:=by simpa using h2
 rw[List.getElem_map,List.getElem_map,List.getElem_range]
 congr 1
 have e1:=ZjC (ns:=Zcn ns) (a:=a) hj
 rw[Zma (by omega)]at e1
 rw[<-e1]
 unfold nth
 rw[YB,Yf (by simpa using h1)];rfl
theorem Zgu {f:Addr}{fd:FuncData} (F:Fun K "stretch_keys" "stretch_keys" Zad f fd) (Zc8:Callee P w K mg base "seen_within" 1 ["distance","size"] (ZcC K mg)) (T:Txt K mg):FnOk P w K mg base (CXE P w) 2 f fd ["told","size"] (ZaS K mg):=by
 refine F.okX Zb1 (λvs H Q E h=>?_) (λcdv A outer s H vs Q E hr h=>?_)
 ·obtain⟨l,ns,c,rfl,_⟩:=h;rfl
 obtain⟨l,ns,c,rfl,hl,hn,hc1,hc2,k1⟩:=h
 refine⟨_,(Zd (Zr (i:=2) Zb1.nd rfl (Or.inl rfl) (ZaM Zb))
   (Zd (Za7 (ZbW PassesOwn.never rfl (ZQ rfl T.b_range (Za (Zo ZU (Zo ZbX (Zp (Zs (K:=K) rfl) rfl T.b_len Yq (Za (pv 0) Zb)) (pv 1)) Ze) Zb)) (Zu (i:=3) Zb1.nd rfl (Or.inl rfl)) (Zf (Z4 (Zdj PySem.F.plainAttrs_list PySem.F.slot_list_append PySem.F.type_list_append Zap (pv 2) (Za (ZaA (ZeC (K:=K) rfl) rfl T.b_tuple Zd9 (Za (ZbS ["at","distance"] [none,none] rfl rfl rfl (Zfl (K:=K) rfl rfl T.b_enumerate (Za (Zax Zco (pv 0) (Zau (pv 3)) (Zau (Zo ZU (pv 3) (pv 1)))) Zb)) (λ_ _ _ _ _=>(ZiI (K:=K) (n:=2) rfl rfl (Zal (Zu (i:=0) (show(["at","distance"]:List Str).Nodup from by decide +kernel) rfl (Or.inl rfl)) (Zal (Zu (i:=1) (show(["at","distance"]:List Str).Nodup from by decide +kernel) rfl (Or.inl rfl)) ZeB)))) (λ_ _ _ _ _=>ZbR) (λ_ _ _ _ _=>(Zh Zc8 (hr.mono (by decide)) rfl Zv (Za (pv 1) (Za (pv 0) Zb)))) (ZgR (Zcv ZH (Zcv ZH ZgQ)))) Zb)) Zb))))))
   (Zf (Zx (pv 2))))),?_⟩
 walk_at "rd"
 refine⟨Ys _,λp hp=>?_⟩
 have s0:=(Zg.refl H).upd (o:=.lst []) hp
 have eD:((Zcn ns).map V.int).length=ns.length:=by rw[Yg,ZfI]
 refine⟨_,.inl (SqL.of (s0 _ _ hl)),by omega,by omega,?_⟩
 rw[eD,show((ns.length:Int)-(c:Int)+1).toNat=Zk ns.length c by unfold Zk;omega]
 have hm:Zk ns.length c<=1000:=by unfold Zk;omega
 refine ZgX (n:=Zk ns.length c) (λa σ Hz=>∃(v3:Option V) (as:List Addr),σ=[some (.ref l),some (.int (c:Int)),some (.ref p),v3]/\Hz p=some (.lst (as.map V.ref))/\as.length=a/\(∀i (h:i<as.length),Hz as[i]=some (.tup ((ZC ns c i).map V.int)))/\Zg H Hz) ⟨none,[],rfl,Zc,rfl,(λi h=>absurd h (by simp)),s0⟩ (λa σ Hz ha _=>by show _ < _;omega) (fun σ Hz _=>by show _<=_;omega) ?_ ?_
 ·rintro a x σ Hz Hw ha ⟨v3,as,rfl,hz,hal,hk,sz⟩ ⟨rfl,rfl⟩
  walk_at "rd"
  have hac:a+c<=ns.length:=by unfold Zk at ha;omega
  refine⟨Z6 hz,_,SqL.of (sz _ _ hl),λl2 hl2=>?_⟩
  rw[show(0:Int)+(a:Int)=((a:Nat):Int) by omega,show((a:Nat):Int)+(c:Int)=((a+c:Nat):Int) by omega,ZjD (Zcn ns) (by omega) (by rw[ZfI];omega),show a+c-a=c by omega,Zor ns hac]
  have g1:=(Zg.refl Hw).upd (o:=.lst ((List.range c).map (λi=>V.int (ZP (nth ns) (a+i))))) hl2
  refine⟨_,SqL.of Zc,?_⟩
  have hL:=Zc (H:=Hw) (a:=l2) (o:=.lst ((List.range c).map (λi=>V.int (ZP (nth ns) (a+i)))))
  generalize upd Hw l2 (.lst ((List.range c).map (λi=>V.int (ZP (nth ns) (a+i)))))=H1 at g1 hL⊢
  refine comp_map (n:=c) (λi=>V.int (sw (ZP (nth ns) (a+i)) i)) (YA (show _<=1000 by omega) (by decide)) (λj Hx s hj=>⟨_,_,SqL.of (s _ _ hL),Yf (by simpa using hj)⟩) (λHx s=>⟨_,SqL.of (s _ _ hL),by simp⟩) ?_ ?_
  ·rintro j v Hx Hy hj s ⟨q,x,hq,rfl,rfl,hx⟩
   have ex:=hx _ (SqL.of (s _ _ hL))
   rw[Yw,List.getElem?_range hj]at ex
   cases ex
   walk_at "rd"
   exact⟨_,SqT.of Zc,rfl,_,_,rfl,_,_,rfl,rfl,_,j,rfl,CW.next hj rfl (s.Zat hq)⟩
  intro q Hx s hq
  have hz1:=(g1.trans s) _ _ hz
  have npq:q≠p:=λe=>by rw[e,hz1]at hq;cases hq
  refine⟨q,rfl,_,.inl ⟨SqL.of Zc,λt ht=>?_⟩⟩
  have eK:(List.range c).map (λi=>V.int (sw (ZP (nth ns) (a+i)) i))=(ZC ns c a).map V.int:=by unfold ZC;rw[YU];rfl
  rw[eK]at ht⊢
  have g2:=((g1.trans s).Zat (o:=.lst ((ZC ns c a).map V.int)) hq).Zat (o:=.tup ((ZC ns c a).map V.int)) ht
  have hT:=Zc (H:=upd Hx q (.lst ((ZC ns c a).map V.int))) (a:=t) (o:=.tup ((ZC ns c a).map V.int))
  generalize upd (upd Hx q (.lst ((ZC ns c a).map V.int))) t (.tup ((ZC ns c a).map V.int))=H2 at g2 hT⊢
  have hp2:=g2 _ _ hz
  have nt:t≠p:=λe=>by rw[e,hp2]at hT;cases hT
  refine⟨_,hp2,YA (show _<=1000 by rw[Yg];omega) (by decide),as++[t],by rw[Zc];simp,by simp[hal],λi h=>?_,λx o hx=>?_⟩
  ·by_cases e:i<as.length
   ·rw[Y5 e]
    have h3:=g2 _ _ (hk i e)
    rw[Zj (λe2=>by rw[e2,hp2]at h3;cases h3)];exact h3
   ·have ei:i=as.length:=by simp at h;omega
    subst ei
    rw[Y6 (Ye _)]
    simp only[Nat.sub_self,List.getElem_cons_zero]
    rw[Zj nt,hal];exact hT
  ·rw[Zj (λe=>by rw[e,hp]at hx;cases hx)]
   exact(sz.trans g2) _ _ hx
 ·rintro σ Hz ⟨v3,as,rfl,hz,hal,hk,sz⟩
  walk_at "rd"
  exact k1 p Hz hp sz ⟨as,hz,hal,hk⟩
theorem Zi0 {f:Addr}{fd:FuncData} (F:Fun K "groups_by" "groups_by" Zbf f fd) (ZT:Callee P w K mg base "stretch_keys" 2 ["told","size"] (ZaS K mg)) (T:Txt K mg):FnOk P w K mg base (CXE P w) 3 f fd ["told","size"] (Zdw K mg):=by
 refine F.okX Zcr (λvs H Q E h=>?_) (λcdv A outer s H vs Q E hr h=>?_)
 ·obtain⟨l,ns,c,rfl,_⟩:=h;rfl
 obtain⟨l,ns,c,rfl,hl,hn,hc1,hc2,k1⟩:=h
 refine⟨_,(Zd (Zr (i:=2) Zcr.nd rfl (Or.inl rfl) ZjI)
   (Zd (Za7 (ZbW PassesOwn.never rfl (Zfl (K:=K) rfl rfl T.b_enumerate (Za (Zh ZT (hr.mono (by decide)) rfl Zv (Za (pv 0) (Za (pv 1) Zb))) Zb)) (Ziv (n:=2) rfl (Zal (Zu (i:=3) Zcr.nd rfl (Or.inl rfl)) (Zal (Zu (i:=4) Zcr.nd rfl (Or.inl rfl)) ZeB))) (Zd (Z4 (ZjK (Zjj hr) (pv 2) (pv 4) (ZaM Zb) ⟨rfl,rfl,rfl,rfl⟩))
   (Zf (Z4 (Zdj PySem.F.plainAttrs_list PySem.F.slot_list_append PySem.F.type_list_append Zap (Zlw (Zjj hr) (pv 2) (pv 4) (λ_ _=>rfl)) (Za (pv 3) Zb)))))))
   (Zf (Zx (ZaA (Zg1 rfl) rfl T.b_list Zfh (Za (Zoh (pv 2)) Zb)))))),?_⟩
 walk_at "rd"
 intro p hp
 have s0:=(Zg.refl H).upd (o:=.dT []) hp
 have hp0:=Zc (H:=H) (a:=p) (o:=.dT [])
 generalize upd H p (.dT [])=H0 at s0 hp0⊢
 have hm:Zk ns.length c<=1000:=by unfold Zk;omega
 refine⟨l,ns,c,rfl,s0 _ _ hl,hn,hc1,hc2,λq H1 zq s1 hK=>⟨q,rfl,?_⟩⟩
 obtain⟨ks,hq,hkl,hks⟩:=hK
 refine⟨_,SqL.of hq,?_⟩
 have nqp:q≠p:=λe=>by rw[e,hp0]at zq;cases zq
 have hp1:=s1 _ _ hp0
 have nkp:∀i (h:i<ks.length),ks[i]≠p:=λi h e=>by have:=hks i h;rw[e,hp1]at this;cases this
 have sH:=s0.trans s1
 refine ZgX (n:=Zk ns.length c) (λj σ Hz=>∃(v3 v4:Option V),σ=[some (.ref l),some (.int (c:Int)),some (.ref p),v3,v4]/\Zc7 H1 Hz p ns c j/\Exc p H1 Hz) ⟨none,none,rfl,⟨[],[],hp1,rfl,rfl,List.nodup_nil,(λi h1 _=>absurd h1 (by simp)),(λa ha=>by cases ha)⟩,(Zg.refl H1).Zlj⟩ (λj σ Hz hj ⟨_,_,_,_,hE⟩=>⟨_,_,SqL.of (hE _ _ nqp hq),Yf (by rw[Yg,hkl];exact hj)⟩) (fun σ Hz ⟨_,_,_,_,hE⟩=>⟨_,SqL.of (hE _ _ nqp hq),by rw[Yg,hkl]⟩) ?_ ?_
 ·rintro j v σ Hz Hw hj ⟨v3,v4,rfl,hG,hE⟩ ⟨t,x,ht,rfl,rfl,hx⟩
  have hjk:j<ks.length:=by omega
  have ex:=hx _ (SqL.of (hE _ _ nqp hq))
  rw[Yw,Yf hjk]at ex
  cases ex
  walk_at "rd"
  refine⟨_,SqT.of Zc,rfl,_,_,rfl,_,_,rfl,rfl,?_⟩
  have g1:=(Zg.refl Hz).upd (o:=.tup [V.int (j:Int),V.ref ks[j]]) ht
  generalize upd Hz t (.tup [V.int (j:Int),V.ref ks[j]])=Hb at g1⊢
  have hGb:=hG.same g1
  obtain⟨kvs,as,hd,hd2,hd3,hd4⟩:=id hGb
  have hkl:kvs.length<=1000:=by
   have l1:kvs.length=(Zi (Zl ns c) j).length:=by simpa using congrArg List.length hd2
   have:(Zi (Zl ns c) j).length<=j:=by
    unfold Zi
    refine Yj (Y3 _ _) ?_
    rw[Y1];exact Ye _
   omega
  refine⟨.inr ⟨_,.inl hd⟩,Ys _,λy hy=>?_⟩
  have g2:=(Zg.refl Hb).upd (o:=.lst []) hy
  have hy2:=Zc (H:=Hb) (a:=y) (o:=.lst [])
  generalize upd Hb y (.lst [])=Hc at g2 hy2⊢
  have gg:=g1.trans g2
  have hE2:Exc p H1 Hc:=hE.same gg
  have hkj:Hc ks[j]=some (.tup (((ZC ns c j).map (Sum.inl:Int->Key)).map kV)):=by rw[ZkK];exact hE2 _ _ (nkp j hjk) (hks j hjk)
  have hdc:=g2 _ _ hd
  have nyp:y≠p:=λe=>by rw[e,hd]at hy;cases hy
  have hy0:H1 y=none:=by
   cases e:H1 y with
   |none=>rfl
   |some o=>have:=(hE.same g1) _ _ nyp e;rw[hy]at this;cases this
  refine⟨kvs,hdc,_,_,rfl,hkj,YA hkl (by decide),λv hv=>?_,λhv=>?_⟩
  ·obtain⟨a,xs,rfl,nap,ha0,ha,hxl,hG2⟩:=(hGb.same g2).old hdc hv
   refine⟨_,(ZhD.t hdc hkj) |> (λz=>by rw[hv]at z;exact z),Z6 ha,a,rfl,xs,ha,YA (show _<=1000 by omega) (by decide),hG2,λx o nx hx=>?_⟩
   rw[Zj (λe=>by rw[e,ha0]at hx;cases hx)];exact hE2 _ _ nx hx
  ·have nky:ks[j]≠p:=nkp j hjk
   refine⟨V.ref y,?_,Z6 (by rw[Zj nyp];exact hy2),y,rfl,[],by rw[Zj nyp];exact hy2,by decide,hGb.new g2 hy hy2 hy0 hdc hv,λx o nx hx=>?_⟩
   ·have:=ZhD.t (H:=upd Hc p (.dT (kvs++[((ZC ns c j).map Sum.inl,V.ref y)]))) Zc (b:=ks[j]) (k:=(ZC ns c j).map Sum.inl) (by rw[Zj nky];exact hkj)
    rw[Zid _ _ _ _ hv,Yd rfl]at this
    exact this
   ·rw[Zj (λe=>by rw[e,hy0]at hx;cases hx),Zj nx];exact hE2 _ _ nx hx
 ·rintro σ Hz ⟨v3,v4,rfl,hG,hE⟩
  walk_at "rd"
  obtain⟨kvs,as,hd,hd2,hd3,hd4,hd5,hd6⟩:=hG
  refine⟨kvs,hd,λv hv=>⟨p,Zc,kvs,?_,λq2 hq2=>?_⟩⟩
  ·rw[Zj (λe=>by rw[<-e,hd]at hv;cases hv)];exact hd
  have sz:Zg H Hz:=λx o hx=>hE _ _ (λe=>by rw[e,hp]at hx;cases hx) (sH _ _ hx)
  have g1:=(Zg.refl Hz).upd (o:=.ext (Zg0 v p)) hv
  have g2:=g1.Zat (o:=.lst (kvs.map (·.2))) hq2
  have l1:kvs.length=(Zi (Zl ns c) (Zk ns.length c)).length:=by simpa using congrArg List.length hd2
  have l2:kvs.length=as.length:=by simpa using congrArg List.length hd3
  refine k1 q2 _ (sz.trans g2) ⟨as,by rw[Zc];exact congrArg (λz=>some (HO.lst z)) hd3,hd4,λz=>?_,?_,λi a b=>?_,(sz.trans g1).free hq2,λa ha=>sH.free (hd6 a ha)⟩
  ·obtain⟨i,hi,e⟩:=Y2 z
   have:=g1 _ _ (hd5 i hi (by omega))
   rw[e,hq2]at this;cases this
  ·unfold Zcq
   rw[Yg];omega
  ·have b':i<(Zi (Zl ns c) (Zk ns.length c)).length:=by unfold Zcq at b;simpa using b
   rw[ZkM b b']
   exact g2 _ _ (hd5 i a b')
theorem ZfQ {f:Addr}{fd:FuncData} (F:Fun K "_law_wide_row" "_law_wide_row" ZZ f fd) (Zq:Callee P w K mg base "_law_take" 1 ["pot","many"] (ZaF K mg)) (Zdz:Callee P w K mg base "_law_row" 2 ["pot","most"] (sp__law_row K mg)) (T:Txt K mg):FnOk P w K mg base (CXE P w) 3 f fd ["pot"] (ZaH K mg):=by
 refine F.okX ZR (λvs H Q E h=>?_) (λcdv A outer s H vs Q E hr h=>?_)
 ·obtain⟨p,rfl,_⟩:=h;rfl
 obtain⟨p,rfl,hP,k1⟩:=h
 refine⟨_,(Zd (Zr (i:=1) ZR.nd rfl (Or.inl rfl) (Zh Zdz (hr.mono (by decide)) rfl Zv (Za (pv 0) (Za Ze Zb))))
   (Zd (Zr (i:=2) ZR.nd rfl (Or.inr rfl) (Zh Zq (hr.mono (by decide)) rfl Zv (Za (pv 0) (Za Ze Zb))))
   (Zd (Zaa (Zm ZeL (pv 2) Ze (Zt _)) (Zf (Zr (i:=1) ZR.nd rfl (Or.inl rfl) (Zax Zco (Zo (Zly (K:=K) rfl) (Zo (Zly (K:=K) rfl) (pv 1) (Zh Zdz (hr.mono (by decide)) rfl Zv (Za (pv 0) (Za Ze Zb)))) (pv 1)) ZcP (Zau Ze)))) ZJ)
   (Zd (Zaa (Zm Zf9 (pv 2) Ze (Zt _)) (Zd (Zr (i:=2) ZR.nd rfl (Or.inr rfl) (Zo ZbX (Zo Zbj Ze (Zh Zq (hr.mono (by decide)) rfl Zv (Za (pv 0) (Za Ze Zb)))) Ze))
   (Zf (Zea (i:=1) ["k","way"] [none,some 2] ZR.nd rfl (Or.inl rfl) rfl rfl rfl (ZQ rfl T.b_range (Za Ze Zb)) (λ_ _ _ _ _=>(Zu (i:=0) (show(["k","way"]:List Str).Nodup from by decide +kernel) rfl (Or.inl rfl))) (λ_ _ _ _ _=>ZbR) (λ_ _ _ _ _=>(Zo Zbj (pv 1) (pv 0))) ZH))) ZJ)
   (Zf (Zx (pv 1))))))),?_⟩
 walk_at "rd"
 refine⟨p,_,rfl,by decide,by decide,hP,λr ns H1 zr hl hr1 P1 e1=>⟨p,_,rfl,by decide,by decide,P1,λd H2 d0 d1 P2 e2=>⟨d,rfl,Z5 (λhd=>?_) (λhd=>?_)⟩⟩⟩
 ·have nrp:r≠p:=λe=>by rw[e]at zr;exact absurd zr hP.some
  have hr2:=e2 _ _ nrp hr1
  refine⟨p,_,rfl,by decide,by decide,P2,λr2 ns2 H3 zr2 hl2 hr3 P3 e3=>⟨r,rfl,r2,rfl,_,SqL.of (e3 _ _ nrp hr2),_,SqL.of hr3,Yj (show _<=1000 by simp only[Yg];omega) (by decide),λa ha=>?_⟩⟩
  have g1:=(Zg.refl H3).upd (o:=.lst (ns.map V.int++ns2.map V.int)) ha
  refine⟨r,rfl,_,SqL.of Zc,_,SqL.of (g1 _ _ (e3 _ _ nrp hr2)),Yj (show _<=1000 by simp only[Yg,Yy];omega) (by decide),λb hb=>⟨_,SqL.of Zc,λt ht=>⟨rfl,Z5 (λz=>by cases z;omega) λ_=>?_⟩⟩⟩
  have g2:=g1.Zat (o:=.lst (ns.map V.int++ns2.map V.int++ns.map V.int)) hb
  have e40:Zbx (ns.map V.int++ns2.map V.int++ns.map V.int) none (some 40)=((ns++ns2++ns).take 40).map V.int:=by
   rw[show(40:Int)=((40:Nat):Int) by rfl,Zkx,<-YD,<-YD,<-List.map_take]
  rw[e40]
  have g3:=g2.Zat (o:=.lst (((ns++ns2++ns).take 40).map V.int)) ht
  exact k1 t _ _ (((e1.trans e2).trans e3).free (P3.ne (g2.free ht)) (g2.free ht)) (by rw[YJ];omega) Zc (P3.same g3) (((e1.trans e2).trans e3).same g3)
 ·have nrp:r≠p:=λe=>by rw[e]at zr;exact absurd zr hP.some
  have hr2:=e2 _ _ nrp hr1
  refine⟨rfl,Z5 (λz=>?_) λ_=>k1 r ns H2 zr (by omega) hr2 P2 (e1.trans e2)⟩
  refine⟨p,_,rfl,by decide,by decide,P2,λx H3 x0 x1 P3 e3=>⟨x,rfl,ZgS (by decide) (by decide),by decide,by decide,?_⟩⟩
  refine comp_map (n:=40) (λi=>V.int ((2*x-1)*(i:Int))) (by decide) (λi Hx s hi=>by show _ < _;exact hi) (λHx s=>Ye _) ?_ ?_
  ·rintro i v Hx Hy hi s ⟨rfl,rfl⟩
   walk_at "rd"
   refine⟨ZgS (by omega) (by omega),CW.next hi ?_ s⟩
   rw[show(0:Int)+(i:Int)=(i:Int) by omega]
  intro t Hx sx ht
  have e123:=((e1.trans e2).trans e3).same (sx.Zat (o:=.lst ((List.range 40).map λ(i:Nat)=>V.int ((2*x-1)*(i:Int)))) ht)
  refine k1 t ((List.range 40).map λ(i:Nat)=>(2*x-1)*(i:Int)) _ (((e1.trans e2).trans e3).free (P3.ne (sx.free ht)) (sx.free ht)) (by simp) (by rw[Zc,YU];rfl) (P3.same (sx.Zat ht)) e123
theorem ZhJ {f:Addr}{fd:FuncData} (F:Fun K "_law_trees" "_law_trees" ZaE f fd) (Zef:Callee P w K mg base "_law_tree" 2 ["row"] (sp__law_tree K mg)) (T:Txt K mg):FnOk P w K mg base (CXE P w) 3 f fd ["row","size"] (ZbM K mg):=by
 refine F.okX ZhG (λvs H Q E h=>?_) (λcdv A outer s H vs Q E hr h=>?_)
 ·obtain⟨r,ns,c,rfl,_⟩:=h;rfl
 obtain⟨r,ns,c,rfl,hr1,hn,hc1,hc2,k1⟩:=h
 refine⟨_,(Zf (Zx (ZbS ["start","row","size"] [none,some 0,some 1] rfl rfl rfl (ZQ rfl T.b_range (Za (Zo ZU (Zo ZbX (Zp (Zs (K:=K) rfl) rfl T.b_len Yq (Za (pv 0) Zb)) (pv 1)) Ze) Zb)) (λ_ _ _ _ _=>(Zu (i:=0) (show(["start","row","size"]:List Str).Nodup from by decide +kernel) rfl (Or.inl rfl))) (λ_ _ _ _ _=>ZbR) (λ_ _ _ _ _=>(Zh Zef (hr.mono (by decide)) rfl Zv (Za (Zax (r:=rSlL K) Zco (pv 1) (Zau (pv 0)) (Zau (Zo ZU (pv 0) (pv 2)))) Zb))) ZH))),?_⟩
 walk_at "rd"
 refine⟨_,.inl (SqL.of hr1),by rw[Yg];omega,by rw[Yg];omega,?_⟩
 rw[Yg,show((ns.length:Int)-(c:Int)+1).toNat=Zk ns.length c by unfold Zk;omega]
 have hm:Zk ns.length c<=1000:=by unfold Zk;omega
 refine Zjt (n:=Zk ns.length c) (λk acc Hz=>∃(ds:List Addr) (U:Nat->List Int),acc=ds.map V.ref/\ds.length=k/\(∀j (h:j<ds.length),ZG (ZdY ns j c) (U j)/\Hz ds[j]=some (.tup ((U j).map V.int)))/\Zg H Hz) (YA hm (by decide)) ⟨[],λ_=>[],rfl,rfl,(λj h=>absurd h (by simp)),Zg.refl _⟩ (λk acc Hz _ hk=>by show _ < _;omega) (λacc Hz _=>by show _<=_;omega) ?_ ?_
 ·rintro k x acc Hz Hw hk hlk ⟨ds,U,rfl,hdl,hU,sz⟩ ⟨rfl,rfl⟩
  have hac:k+c<=ns.length:=by unfold Zk at hk;omega
  walk_at "rd"
  refine⟨_,SqL.of (sz _ _ hr1),λl hl=>?_⟩
  rw[show(0:Int)+(k:Int)=((k:Nat):Int) by omega,show((k:Nat):Int)+(c:Int)=((k+c:Nat):Int) by omega,ZjD ns (by omega) hac,show k+c-k=c by omega]
  refine⟨l,_,rfl,Zc,by rw[Zdl hac];omega,λt es H3 hT3 s3 ht=>CA.take hk hlk ⟨ds++[t],by simp,by simp[hdl],λj=>if j=k then es else U j,λj h=>?_,(sz.Zat hl).trans s3⟩⟩
  by_cases e:j<ds.length
  ·have nj:¬ j=k:=by rw[<-hdl];omega
   rw[Y5 e]
   simp only[Yb nj]
   exact⟨(hU j e).1,s3 _ _ (((Zg.refl _).upd hl) _ _ (hU j e).2)⟩
  ·have ej:j=ds.length:=by simp at h;omega
   subst ej
   rw[Y6 (Ye _)]
   simp only[Nat.sub_self,List.getElem_cons_zero,hdl,Yd]
   exact⟨hT3,ht⟩
 ·rintro l acc Hx ⟨ds,U,rfl,hdl,hU,sz⟩ _ hl
  exact k1 l U _ (sz.free hl) (sz.Zat hl) (λi hi=>(hU i (by omega)).1) ⟨ds,Zc,hdl,λi h=>((Zg.refl _).upd hl) _ _ (hU i h).2⟩
theorem ZlC:∀{xs ys:List Int},xs.map V.int=ys.map V.int->xs=ys
 |[],[],_=>rfl
 |[],_::_,h=>by cases h
 |_::_,[],h=>by cases h
 |x::xs,y::ys,h=>by
  rw[YC,YC]at h
  injection h with h1 h2
  injection h1 with h1
  rw[h1,ZlC h2]
noncomputable def Zft (H:Hp) (xs:List Int) (a:Addr):Bool:=@decide (H a=some (.tup (xs.map V.int))) (Classical.propDecidable _)
theorem Zmk {H:Hp}{xs:List Int}{a:Addr}:Zft H xs a=true↔H a=some (.tup (xs.map V.int)):=@decide_eq_true_iff _ (Classical.propDecidable _)
theorem ZgJ {as:List Addr}{i:Nat} (h:i<as.length):atI (as.map V.ref) (i:Int)=some (V.ref as[i]):=by
 exact Zlg (by rw[Yw,Yf h];rfl)
theorem Zg9 (E:Nat->Nat->Bool) (m:Nat):(Zi E m).Pairwise (· < ·):=List.Pairwise.filter _ List.pairwise_lt_range
theorem ZjS (E:Nat->Nat->Bool) (m f:Nat):(Zc3 E m f).Pairwise (· < ·):=List.Pairwise.filter _ List.pairwise_lt_range
theorem Zha {E:Nat->Nat->Bool}{m f b:Nat}:b∈Zc3 E m f↔b<m/\E b f=true:=by
 unfold Zc3
 rw[YH,Yx]
theorem two_in {L:List Nat}{x y:Nat} (hx:x∈L) (hy:y∈L) (h:x≠y):1<L.length:=by
 match L,hx,hy with
 |[a],hx,hy=>exact absurd ((Y0.mp hx).trans (Y0.mp hy).symm) h
 |_::_::_,_,_=>simp
theorem pw_le {L:List Nat} (h:L.Pairwise (· < ·)) {i j:Nat} (hi:i<L.length) (hj:j<L.length) (hij:i<=j):L[i]<=L[j]:=by
 rcases Nat.lt_or_ge i j with z|z
 ·exact YN (List.pairwise_iff_getElem.mp h i j hi hj z)
 ·have:i=j:=by omega
  subst this;exact Ye _
section
variable {E:Nat->Nat->Bool}
theorem Zos (rf:∀a,E a a=true) (tr:∀a b c,E a b=true->E b c=true->E a c=true) (sy:∀a b,E a b=true->E b a=true) {m x y:Nat} (hxy:x<y) (hy:y<m) (h:E x y=true):∃(i:Nat) (hi:i<(Zi E m).length),(Zi E m)[i]<=x/\1<(Zc3 E m (Zi E m)[i]).length:=by
 obtain⟨f,f1,f2,f3⟩:=Ze2 tr rf m x (by omega)
 obtain⟨i,hi,rfl⟩:=Y2 f1
 exact⟨i,hi,f3,two_in (Zha.mpr ⟨by omega,sy _ _ f2⟩) (Zha.mpr ⟨hy,sy _ _ (tr _ _ _ f2 h)⟩) (by omega)⟩
theorem ZpO (rf:∀a,E a a=true) (tr:∀a b c,E a b=true->E b c=true->E a c=true) (sy:∀a b,E a b=true->E b a=true) {m:Nat} (h:∀(i:Nat) (hi:i<(Zi E m).length),(Zc3 E m (Zi E m)[i]).length<=1):ZiX E m none:=λx y hxy hy=>by
 rw[Bool.eq_false_iff];intro z
 obtain⟨i,hi,_,h2⟩:=Zos rf tr sy hxy hy z
 have:=h i hi;omega
theorem ZpP (rf:∀a,E a a=true) (tr:∀a b c,E a b=true->E b c=true->E a c=true) (sy:∀a b,E a b=true->E b a=true) {m j:Nat} (hj:j<(Zi E m).length) (h:∀(i:Nat) (hi:i<(Zi E m).length),i<j->(Zc3 E m (Zi E m)[i]).length<=1) {a b:Nat}{r:List Nat} (hg:Zc3 E m (Zi E m)[j]=a::b::r):ZiX E m (some (a,b)):=by
 have hs:=ZjS E m (Zi E m)[j]
 have hF:=Zag.mp (YM hj)
 have hma:∀x,x∈a::b::r↔x<m/\E x (Zi E m)[j]=true:=λx=>by rw[<-hg];exact Zha
 rw[hg]at hs
 obtain⟨s1,s2⟩:=YW.mp hs
 obtain⟨s3,_⟩:=YW.mp s2
 have ha:=(hma a).mp (by simp)
 have hb:=(hma b).mp (by simp)
 have ea:a<=(Zi E m)[j]:=by
  have:=(hma _).mpr ⟨hF.1,rf _⟩
  rcases Yk.mp this with z|z
  ·omega
  ·have:=s1 _ z;omega
 refine⟨s1 b (by simp),hb.1,tr _ _ _ ha.2 (sy _ _ hb.2),λx y hxy hy hE=>?_,λy hy hym hE=>?_⟩
 ·obtain⟨i,hi,f3,h2⟩:=Zos rf tr sy hxy hy hE
  rcases Nat.lt_or_ge i j with z|z
  ·have:=h i hi z;omega
  ·have:=pw_le (Zg9 E m) hj hi z;omega
 ·have:=(hma y).mpr ⟨hym,tr _ _ _ (sy _ _ hE) ha.2⟩
  rcases Yk.mp this with z|z
  ·omega
  ·rcases Yk.mp z with z|z
   ·omega
   ·have:=s3 y z;omega
theorem Zi1 {m:Nat}:∀{o o':Option (Nat×Nat)},ZiX E m o->ZiX E m o'->o=o'
 |none,none,_,_=>rfl
 |none,some (a,b),h,g=>by have:=h a b g.1 g.2.1;rw[g.2.2.1]at this;cases this
 |some (a,b),none,g,h=>by have:=h a b g.1 g.2.1;rw[g.2.2.1]at this;cases this
 |some (a,b),some (c,d),h,g=>by
  obtain⟨h1,h2,h3,h4,h5⟩:=h
  obtain⟨g1,g2,g3,g4,g5⟩:=g
  have e:a=c:=Nat.le_antisymm (h4 c d g1 g2 g3) (g4 a b h1 h2 h3)
  subst e
  rw[Nat.le_antisymm (h5 d g1 g2 g3) (g5 b h1 h2 h3)]
theorem Zi2 {m1 m2:Nat}:∀{o o':Option (Nat×Nat)},ZjQ E m1 m2 o->ZjQ E m1 m2 o'->o=o'
 |none,none,_,_=>rfl
 |none,some (a,b),h,g=>by have:=h a b g.1 g.2.1;rw[g.2.2.1]at this;cases this
 |some (a,b),none,g,h=>by have:=h a b g.1 g.2.1;rw[g.2.2.1]at this;cases this
 |some (a,b),some (c,d),h,g=>by
  obtain⟨h1,h2,h3,h4,h5⟩:=h
  obtain⟨g1,g2,g3,g4,g5⟩:=g
  have e:a=c:=Nat.le_antisymm (h4 c d g1 g2 g3) (g4 a b h1 h2 h3)
  subst e
  rw[Nat.le_antisymm (h5 d g2 g3) (g5 b h2 h3)]
end
theorem aK_rf (ns:List Int) (c a:Nat):Zl ns c a a=true:=Zn.mpr rfl
theorem aK_tr (ns:List Int) (c a b d:Nat) (h1:Zl ns c a b=true) (h2:Zl ns c b d=true):Zl ns c a d=true:=Zn.mpr ((Zn.mp h1).trans (Zn.mp h2))
theorem aK_sy (ns:List Int) (c a b:Nat) (h:Zl ns c a b=true):Zl ns c b a=true:=Zn.mpr (Zn.mp h).symm
theorem ZbG {ns ms:List Int}{c a b:Nat}:ZbZ ns ms c a b=true↔ZC ns c a=ZC ms c b:=decide_eq_true_iff
theorem ZlD (ns ms:List Int) (a b:Nat):ZC ns 1 a=ZC ms 1 b:=by
 have:∀(ns:List Int) a,ZC ns 1 a=[0]:=λns a=>by
  unfold ZC
  rw[show List.range 1=[0]from rfl,YC,List.map_nil]
  congr 1
  unfold sw
  have:=(Zdt (nth ns) (a+0)).1
  split<;>omega
 rw[this,this]
theorem Zot {ns ms:List Int}{c a b:Nat} (h:ZC ns (c+1) a=ZC ms (c+1) b):ZC ns c a=ZC ms c b:=by
 unfold ZC at *
 rw[YL,YD,YD]at h
 exact(List.append_inj h (by simp)).1
theorem Zhb {ns ms:List Int}{c:Nat}:∀{d a b:Nat},ZC ns (c+d) a=ZC ms (c+d) b->ZC ns c a=ZC ms c b
 |0,_,_,h=>h
 |d+1,_,_,h=>Zhb (d:=d) (Zot h)
theorem ZkO {ns:List Int}{c a b c' a' b':Nat} (h:Zg4 ns c a b) (g:Zg4 ns c' a' b'):c=c'/\a=a'/\b=b':=by
 have key:∀{c a b c' a' b':Nat},Zg4 ns c a b->Zg4 ns c' a' b'->¬ c<c':=λ{c a b c' a' b'} h g z=>by
  obtain⟨h1,h2,h3,h4⟩:=h
  obtain⟨g1,g2,g3,g4⟩:=g
  have e:ZC ns (c+1+(c'-(c+1))) a'=ZC ns (c+1+(c'-(c+1))) b':=by rw[show c+1+(c'-(c+1))=c' by omega];exact Zn.mp g3.2.2.1
  have:=h4 a' b' g3.1 (by have:=g3.2.1;unfold Zk at *;omega)
  rw[Zn.mpr (Zhb e)]at this;cases this
 have e:c=c':=by
  rcases Nat.lt_trichotomy c c' with z|z|z
  ·exact absurd z (key h g)
  ·exact z
  ·exact absurd z (key g h)
 subst e
 have:=Zi1 h.2.2.1 g.2.2.1
 cases this
 exact⟨rfl,rfl,rfl⟩
theorem ZkP {ns ms:List Int}{c a b c' a' b':Nat} (h:Zih ns ms c a b) (g:Zih ns ms c' a' b'):c=c'/\a=a'/\b=b':=by
 have key:∀{c a b c' a' b':Nat},Zih ns ms c a b->Zih ns ms c' a' b'->¬ c<c':=λ{c a b c' a' b'} h g z=>by
  obtain⟨h1,h2,h2',h3,h4⟩:=h
  obtain⟨g1,g2,g2',g3,g4⟩:=g
  have e:ZC ns (c+1+(c'-(c+1))) a'=ZC ms (c+1+(c'-(c+1))) b':=by rw[show c+1+(c'-(c+1))=c' by omega];exact ZbG.mp g3.2.2.1
  have:=h4 a' b' (by have:=g3.1;unfold Zk at *;omega) (by have:=g3.2.1;unfold Zk at *;omega)
  rw[ZbG.mpr (Zhb e)]at this;cases this
 have e:c=c':=by
  rcases Nat.lt_trichotomy c c' with z|z|z
  ·exact absurd z (key h g)
  ·exact z
  ·exact absurd z (key g h)
 subst e
 have:=Zi2 h.2.2.2.1 g.2.2.2.1
 cases this
 exact⟨rfl,rfl,rfl⟩
noncomputable def FirAt (H:Hp) (p:Addr) (ms:List Int) (c j:Nat):Prop:=∃kvs:List (List Key×V),H p=some (.dT kvs)/\kvs=(Zi (Zl ms c) j).map λf=>((ZC ms c f).map Sum.inl,V.int (f:Int))
theorem Zii {ms:List Int}{c j:Nat}{k:List Int}{v:V} (h:Zbz ((Zi (Zl ms c) j).map λf=>((ZC ms c f).map (Sum.inl:Int->Key),V.int (f:Int))) (k.map Sum.inl)=some v):∃f,f∈Zi (Zl ms c) j/\ZC ms c f=k/\v=V.int (f:Int):=by
 obtain⟨i,hi,e⟩:=ZiV h
 have hi':i<(Zi (Zl ms c) j).length:=by simpa using hi
 rw[List.getElem_map]at e
 have e1:=congrArg Prod.fst e
 have e2:=congrArg Prod.snd e
 exact⟨_,YM hi',ZkL e1,e2.symm⟩
theorem ZjT {ms:List Int}{c j:Nat}{k:List Int} (h:Zbz ((Zi (Zl ms c) j).map λf=>((ZC ms c f).map (Sum.inl:Int->Key),V.int (f:Int))) (k.map Sum.inl)=none):∀b,b<j->ZC ms c b≠k:=λb hb e=>by
 have no:=ZjJ h
 rw[YU]at no
 obtain⟨f,f1,f2,_⟩:=Ze2 (E:=Zl ms c) (aK_tr ms c) (aK_rf ms c) j b hb
 exact no (YQ.mpr ⟨f,f1,by show(ZC ms c f).map Sum.inl=_;rw[Zn.mp f2,e]⟩)
theorem ZjU (E:Nat->Nat->Bool) (j:Nat):(Zi E j).length<=j:=by
 unfold Zi
 refine Yj (Y3 _ _) ?_
 rw[Y1];exact Ye _
theorem ZjV {ns ms:List Int}{c a b:Nat} (ha:a+c<=ns.length) (hb:b+c<=ms.length) {S T:List Int} (h1:ZG (ZdY ns a c) S) (h2:ZG (ZdY ms b c) T):ZbZ ns ms c a b=decide (S=T):=by
 have la:=Zdl ha
 have lb:=Zdl hb
 have key:ZC ns c a=ZC ms c b↔Zl9 (nth (ZdY ns a c)) (nth (ZdY ms b c)) c:=by
  constructor
  ·intro h i hi
   rw[ZbT hi,ZbT hi]
   have:=congrArg (λ(l:List Int)=>l[i]?) h
   simpa[ZC,hi]using this
  ·intro h
   unfold ZC
   refine List.map_congr_left λi hi=>?_
   have hi:=Yx.mp hi
   have:=h i hi
   rw[ZbT hi,ZbT hi]at this
   exact this
 unfold ZbZ
 rw[decide_eq_decide,key]
 constructor
 ·intro h
  have:=h.lows
  exact((ZiQ h1 h2).mp ⟨by rw[la,lb],by rw[la];exact this⟩).2
 ·rintro rfl
  have:=ZgY h1 h2
  rw[la]at this;exact this
theorem prOn {cs:List Addr}{H H':Hp}{y:V}{o:Option (Nat×Nat)} (hz:∀b∈cs,H' b=none) (h:ZkJ H' y o):ZkJ (onC cs H H') y o:=by
 match o,h with
 |none,h=>exact h
 |some (a,b),⟨t,e,ht⟩=>exact⟨t,e,onC_at hz ht⟩
theorem ZjW {f:Addr}{fd:FuncData} (F:Fun K "twice_at" "twice_at" ZbA f fd) (Zeg:Callee P w K mg base "groups_by" 3 ["told","size"] (Zdw K mg)) (T:Txt K mg):FnOk P w K mg base (CXE P w) 4 f fd ["told","size"] (Zed K mg):=by
 refine F.okX Zge (λvs H Q E h=>?_) (λcdv A outer s H vs Q E hr h=>?_)
 ·obtain⟨l,ns,c,rfl,_⟩:=h;rfl
 obtain⟨l,ns,c,rfl,hl,hn,hc1,hc2,k1⟩:=h
 refine⟨_,(Zd (Za7 (ZbW PassesOwn.never rfl (ZgH (Zh Zeg (hr.mono (by decide)) rfl Zv (Za (pv 0) (Za (pv 1) Zb)))) (Zu (i:=2) Zge.nd rfl (Or.inl rfl)) (Zf (Zaa (Zm ZeL (Zp (Zs (K:=K) rfl) rfl T.b_len Yq (Za (pv 2) Zb)) Ze (Zt _)) (Zf (Zx (Zd5 (Za (ZF ZA (pv 2) Ze (λ_ _=>rfl)) (Za (ZF ZA (pv 2) Ze (λ_ _=>rfl)) Zb))))) ZJ))))
   (Zf (Zx ZeT))),?_⟩
 walk_at "rd"
 refine⟨l,ns,c,rfl,hl,hn,hc1,hc2,λq H1 s1 hN=>⟨q,rfl,?_⟩⟩
 obtain⟨as,hq,_,_,hlen,hat,_,_⟩:=hN
 have hm:Zk ns.length c<=1000:=by unfold Zk;omega
 have lG:(Zcq ns c).length=(Zi (Zl ns c) (Zk ns.length c)).length:=Yg ..
 have gl:∀(i:Nat) (hi:i<(Zcq ns c).length) (hi2:i<(Zi (Zl ns c) (Zk ns.length c)).length),(Zcq ns c)[i]=Zc3 (Zl ns c) (Zk ns.length c) (Zi (Zl ns c) (Zk ns.length c))[i]:=λi hi hi2=>List.getElem_map _
 generalize Zcq ns c=G at hlen hat lG gl
 generalize hE:Zl ns c=E0' at lG gl k1
 generalize Zk ns.length c=m at hm lG gl k1
 have rf:∀a,E0' a a=true:=λa=>by rw[<-hE];exact aK_rf ns c a
 have tr:∀a b d,E0' a b=true->E0' b d=true->E0' a d=true:=λa b d=>by rw[<-hE];exact aK_tr ns c a b d
 have sy:∀a b,E0' a b=true->E0' b a=true:=λa b=>by rw[<-hE];exact aK_sy ns c a b
 refine⟨⟨_,SqL.of hq⟩,?_⟩
 refine ZgX (n:=as.length) (λj σ Hx=>∃v2,σ=[some (.ref l),some (.int (c:Int)),v2]/\(∀(i:Nat) (hi:i<(Zi E0' m).length),i<j->(Zc3 E0' m (Zi E0' m)[i]).length<=1)/\Hx=H1) ⟨_,rfl,(λi hi z=>absurd z (by omega)),rfl⟩ (λj σ Hx hj ⟨_,_,_,e⟩=>by subst e;exact⟨_,_,SqL.of hq,Yf (by rw[Yg];exact hj)⟩) (fun σ Hx ⟨_,_,_,e⟩=>by subst e;exact⟨_,SqL.of hq,by rw[Yg];exact Ye _⟩) ?_ ?_
 ·rintro j x σ Hx Hy hj ⟨v2,rfl,hp,rfl⟩ ⟨rfl,hx⟩
  have ex:=hx _ (SqL.of hq)
  rw[Yw,Yf hj]at ex
  cases ex
  have hjF:j<(Zi E0' m).length:=by omega
  have hg:=hat j hj (by omega)
  rw[gl j (by omega) hjF]at hg
  walk_at "rd"
  refine⟨_,.inl (SqL.of hg),Z5 (λz=>?_) λz i hi hij=>?_⟩
  ·rw[ZE]at z
   obtain⟨a,b,r,e⟩:∃a b r,Zc3 E0' m (Zi E0' m)[j]=a::b::r:=by
    generalize Zc3 E0' m (Zi E0' m)[j]=g at z
    match g,z with
    |a::b::r,_=>exact⟨a,b,r,rfl⟩
    |[_],z=>simp at z
    |[],z=>simp at z
   have tw:=ZpP rf tr sy hjF (λi hi y=>hp i hi y) e
   rw[e]at hg
   exact⟨_,SqL.of hg,_,Zdk (j:=0) rfl,_,SqL.of hg,_,Zdk (j:=1) rfl,by decide,λq hq=>k1 _ (some (a,b)) _ tw ⟨q,rfl,Zc⟩ (s1.Zat hq)⟩
  ·by_cases e:i=j
   ·subst e;rw[ZE]at z;omega
   ·exact hp i hi (by omega)
 ·rintro σ Hx ⟨v2,rfl,hp,rfl⟩
  walk_at "rd"
  exact k1 _ none _ (ZpO rf tr sy λi hi=>hp i hi (by omega)) rfl s1
theorem ZkQ {f:Addr}{fd:FuncData} (F:Fun K "both_at" "both_at" Zcw f fd) (ZT:Callee P w K mg base "stretch_keys" 2 ["told","size"] (ZaS K mg)) (T:Txt K mg):FnOk P w K mg base (CXE P w) 3 f fd ["ones","others","size"] (Ze4 K mg):=by
 refine F.okX ZbF (λvs H Q E h=>?_) (λcdv A outer s H vs Q E hr h=>?_)
 ·obtain⟨l1,l2,ns,ms,c,rfl,_⟩:=h;rfl
 obtain⟨l1,l2,ns,ms,c,rfl,hl1,hl2,hn,hm,hc1,hc2,k1⟩:=h
 refine⟨_,(Zd (Zr (i:=3) ZbF.nd rfl (Or.inl rfl) ZjI)
   (Zd (Za7 (ZbW PassesOwn.never rfl (Zfl (K:=K) rfl rfl T.b_enumerate (Za (Zh ZT (hr.mono (by decide)) rfl Zv (Za (pv 1) (Za (pv 2) Zb))) Zb)) (Ziv (n:=2) rfl (Zal (Zu (i:=4) ZbF.nd rfl (Or.inl rfl)) (Zal (Zu (i:=5) ZbF.nd rfl (Or.inl rfl)) ZeB))) (Zf (Z4 (ZjK (Zjj hr) (pv 3) (pv 5) (pv 4) ⟨rfl,rfl,rfl,rfl⟩)))))
   (Zd (Za7 (ZbW PassesOwn.never rfl (Zfl (K:=K) rfl rfl T.b_enumerate (Za (Zh ZT (hr.mono (by decide)) rfl Zv (Za (pv 0) (Za (pv 2) Zb))) Zb)) (Ziv (n:=2) rfl (Zal (Zu (i:=6) ZbF.nd rfl (Or.inl rfl)) (Zal (Zu (i:=5) ZbF.nd rfl (Or.inl rfl)) ZeB))) (Zf (Zaa (pt_cmp (pc_din (Zjj hr) (pv 5) (pv 3))) (Zf (Zx (Zd5 (Za (pv 6) (Za (Zlw (Zjj hr) (pv 3) (pv 5) (λ_ _=>rfl)) Zb))))) ZJ))))
   (Zf (Zx ZeT))))),?_⟩
 have hmm:Zk ms.length c<=1000:=by unfold Zk;omega
 have hmn:Zk ns.length c<=1000:=by unfold Zk;omega
 refine ZaO (fun σ Hx=>∃p,σ=[some (.ref l1),some (.ref l2),some (.int (c:Int)),some (.ref p),none,none,none]/\H p=none/\Hx p=some (.dT [])/\Zg H Hx) (λR hR=>?_) ?_
 ·walk_at "rd"
  exact λp hp=>hR _ _ ⟨p,rfl,hp,Zc,(Zg.refl H).upd hp⟩
 rintro σ H1 ⟨p,rfl,zp,hp,s1⟩
 refine ZaO (fun σ Hx=>∃v4 v5,σ=[some (.ref l1),some (.ref l2),some (.int (c:Int)),some (.ref p),v4,v5,none]/\FirAt Hx p ms c (Zk ms.length c)/\Exc p H1 Hx) (λR hR=>?_) ?_
 ·walk_at "rd"
  refine⟨l2,ms,c,rfl,s1 _ _ hl2,hm,hc1,hc2,λq H2 zq s2 hK=>⟨q,rfl,?_⟩⟩
  obtain⟨ks,hq,hkl,hks⟩:=hK
  have nqp:q≠p:=λe=>by rw[e,hp]at zq;cases zq
  have hp2:=s2 _ _ hp
  have nkp:∀i (h:i<ks.length),ks[i]≠p:=λi h e=>by have:=hks i h;rw[e,hp2]at this;cases this
  refine⟨_,SqL.of hq,?_⟩
  refine ZgX (n:=Zk ms.length c) (λj σ Hz=>∃(v4 v5:Option V),σ=[some (.ref l1),some (.ref l2),some (.int (c:Int)),some (.ref p),v4,v5,none]/\FirAt Hz p ms c j/\Exc p H2 Hz) ⟨none,none,rfl,⟨[],hp2,rfl⟩,(Zg.refl H2).Zlj⟩ (λj σ Hz hj ⟨_,_,_,_,hE⟩=>⟨_,_,SqL.of (hE _ _ nqp hq),Yf (by rw[Yg,hkl];exact hj)⟩) (fun σ Hz ⟨_,_,_,_,hE⟩=>⟨_,SqL.of (hE _ _ nqp hq),by rw[Yg,hkl]⟩) ?_ ?_
  ·rintro j v σ Hz Hw hj ⟨v3,v4,rfl,⟨kvs,hk1,hk2⟩,hE⟩ ⟨t,x,ht,rfl,rfl,hx⟩
   have hjk:j<ks.length:=by omega
   have ex:=hx _ (SqL.of (hE _ _ nqp hq))
   rw[Yw,Yf hjk]at ex
   cases ex
   walk_at "rd"
   have g1:=(Zg.refl Hz).upd (o:=.tup [V.int (j:Int),V.ref ks[j]]) ht
   have hkj:upd Hz t (.tup [V.int (j:Int),V.ref ks[j]]) ks[j]=some (.tup (((ZC ms c j).map (Sum.inl:Int->Key)).map kV)):=by rw[ZkK];exact g1 _ _ (hE _ _ (nkp j hjk) (hks j hjk))
   refine⟨_,SqT.of Zc,rfl,_,_,rfl,_,_,rfl,rfl,.inr ⟨_,.inl (g1 _ _ hk1)⟩,kvs,g1 _ _ hk1,(ZC ms c j).map Sum.inl,ks[j],rfl,hkj,?_,λv hv=>?_,λhv=>?_⟩
   ·rw[hk2,Yg];exact YA (Yj (ZjU _ _) (show j<=1000 by omega)) (by decide)
   ·rw[hk2]at hv
    obtain⟨f,f1,f2,rfl⟩:=Zii hv
    refine⟨⟨kvs,g1 _ _ hk1,?_⟩,hE.same g1⟩
    rw[hk2,Zgc (Zag.mp f1).1 (Zn.mpr f2)]
   ·rw[hk2]at hv
    have no:=ZjT hv
    refine⟨⟨_,Zc,?_⟩,(hE.same g1).trans Exc.upd⟩
    rw[hk2,Zgd (λb hb=>by rw[Bool.eq_false_iff];exact λz=>no b hb (Zn.mp z)),YD]
    rfl
  ·rintro σ Hz ⟨v4,v5,rfl,hF,hE⟩
   exact hR _ _ ⟨_,_,rfl,hF,λb o n z=>hE b o n (s2 _ _ z)⟩
 rintro σ H2 ⟨v4,v5,rfl,⟨kvs,hk1,hk2⟩,e2⟩
 have s2:Zg H H2:=s1.exc zp e2
 refine ZaO (fun σ Hx=>∃σ',σ=σ'/\ZjQ (ZbZ ns ms c) (Zk ns.length c) (Zk ms.length c) none/\Zg H Hx) (λR hR=>?_) ?_
 ·walk_at "rd"
  refine⟨l1,ns,c,rfl,s2 _ _ hl1,hn,hc1,hc2,λq H3 zq s3 hK=>⟨q,rfl,?_⟩⟩
  obtain⟨ks,hq,hkl,hks⟩:=hK
  have s23:=s2.trans s3
  refine⟨_,SqL.of hq,?_⟩
  refine ZgX (n:=Zk ns.length c) (λj σ Hz=>∃(v5 v6:Option V),σ=[some (.ref l1),some (.ref l2),some (.int (c:Int)),some (.ref p),v4,v5,v6]/\(∀a b,a<j->b<Zk ms.length c->ZbZ ns ms c a b=false)/\Zg H3 Hz) ⟨_,_,rfl,(λa b h=>absurd h (by omega)),Zg.refl _⟩ (λj σ Hz hj ⟨_,_,_,_,hE⟩=>⟨_,_,SqL.of (hE _ _ hq),Yf (by rw[Yg,hkl];exact hj)⟩) (fun σ Hz ⟨_,_,_,_,hE⟩=>⟨_,SqL.of (hE _ _ hq),by rw[Yg,hkl]⟩) ?_ ?_
  ·rintro j v σ Hz Hw hj ⟨v5,v6,rfl,hno,sz⟩ ⟨t,x,ht,rfl,rfl,hx⟩
   have hjk:j<ks.length:=by omega
   have ex:=hx _ (SqL.of (sz _ _ hq))
   rw[Yw,Yf hjk]at ex
   cases ex
   walk_at "rd"
   have g1:=(Zg.refl Hz).upd (o:=.tup [V.int (j:Int),V.ref ks[j]]) ht
   have sg:=(s3.trans sz).trans g1
   have hkj:upd Hz t (.tup [V.int (j:Int),V.ref ks[j]]) ks[j]=some (.tup (((ZC ns c j).map (Sum.inl:Int->Key)).map kV)):=by rw[ZkK];exact g1 _ _ (sz _ _ (hks j hjk))
   have hd:=ZhD.t (sg _ _ hk1) hkj
   refine⟨_,SqT.of Zc,rfl,_,_,rfl,_,_,rfl,rfl,_,hd,?_⟩
   cases hv:Zbz kvs ((ZC ns c j).map Sum.inl)with
   |some x =>
    rw[hv]at hd
    rw[hk2]at hv
    obtain⟨f,f1,f2,rfl⟩:=Zii hv
    have fm:=Zag.mp f1
    refine Z5 (λ_=>?_) (λz=>absurd rfl z)
    refine⟨_,hd,by decide,λq hq=>k1 _ (some (j,f)) _ ⟨hj,fm.1,ZbG.mpr f2.symm,λx y hx hy hE=>?_,λy hy hE=>?_⟩ ⟨q,rfl,Zc⟩ ((s23.trans (sz.trans g1)).Zat hq)⟩
    ·rcases Nat.lt_or_ge x j with z|z
     ·rw[hno x y z hy]at hE;cases hE
     ·exact z
    ·rcases Nat.lt_or_ge y f with z|z
     ·have:=fm.2 y z
      rw[Zn.mpr ((ZbG.mp hE).symm.trans f2.symm)]at this;cases this
     ·exact z
   |none =>
    refine Z5 (λz=>nomatch z) (λ_=>?_)
    rw[hk2]at hv
    have no:=ZjT hv
    refine⟨λa b ha hb=>?_,sz.trans g1⟩
    rcases Nat.lt_or_ge a j with z|z
    ·exact hno a b z hb
    ·have:a=j:=by omega
     subst this
     rw[Bool.eq_false_iff]
     exact λz=>no b hb (ZbG.mp z).symm
  ·rintro σ Hz ⟨v5,v6,rfl,hno,sz⟩
   exact hR _ _ ⟨_,rfl,λa b ha hb=>hno a b ha hb,s23.trans sz⟩
 rintro σ H3 ⟨_,rfl,hno,s3⟩
 walk_at "rd"
 exact k1 _ none _ hno rfl s3
theorem ZkR {f:Addr}{fd:FuncData} (F:Fun K "longest" "longest" Zcx f fd) (T:Txt K mg):FnOk P w K mg base (CXE P w) 8 f fd ["most","pair_at"] (Zdx P w K mg base):=by
 refine F.okX Zba (λvs H Q E h=>?_) (λcdv A outer s H vs Q E hr h=>?_)
 ·obtain⟨f,most,sp,PrO,rfl,_⟩:=h;rfl
 obtain⟨f,most,sp,PrO,rfl,hf,hV,hm1,hm2,hp1,hsp,k1⟩:=h
 refine⟨_,(Zd (ZnD (i:=2) (j:=3) rfl Zba.nd rfl rfl (by decide) rfl rfl (Za Ze (Za (ZjO (k:=7) (hr.mono (by decide)) (pv 1) (Za Ze Zb)) Zb)) rfl)
   (Zd (Zr (i:=4) Zba.nd rfl (Or.inl rfl) (Zo ZU (pv 0) Ze))
   (Zd (Za7 (ZgN PassesOwn.never (Zm ZeL (Zo ZbX (pv 4) (pv 2)) Ze (Zt _)) (Zd (Zr (i:=5) Zba.nd rfl (Or.inl rfl) (Zo Zfo (Zo ZU (pv 2) (pv 4)) Ze))
   (Zd (Zr (i:=6) Zba.nd rfl (Or.inl rfl) (ZjO (k:=7) (hr.mono (by decide)) (pv 1) (Za (pv 5) Zb)))
   (Zf (Zaa (Zm op_isN (pv 6) ZeT (Zt _)) (Zf (Zr (i:=4) Zba.nd rfl (Or.inl rfl) (pv 5))) (Zf (ZnD (i:=2) (j:=3) rfl Zba.nd rfl rfl (by decide) rfl rfl (Za (pv 5) (Za (pv 6) Zb)) rfl))))))))
   (Zf (Zx (Zo ZpK (Zd5 (Za (pv 2) Zb)) (pv 3))))))),?_⟩
 walk_at "rd"
 refine⟨hf,hf,sp,hV,hsp 1 H _ (Ye _) hm1 (Zg.refl _) λy o H1 s1 ho hy=>?_⟩
 cases o with
 |none=>exact absurd rfl (hp1 _ ho)
 |some ab =>
 obtain⟨a,b⟩:=ab
 obtain⟨t,rfl,ht⟩:=hy
 refine ZiN most (λj σ Hx=>∃(c d a b:Nat) (t:Addr) (v5 v6:Option V),σ=[some (.int (most:Int)),some (.ref f),some (.int (c:Int)),some (.ref t),some (.int (d:Int)),v5,v6]/\1<=c/\c<d/\d<=most+1/\j+(d-c)<=most/\PrO c (some (a,b))/\(d<=most->PrO d none)/\Hx t=some (.tup [.int (a:Int),.int (b:Int)])/\Zg H Hx) ⟨1,most+1,a,b,t,_,_,rfl,by omega,by omega,by omega,by omega,ho,(λz=>absurd z (by omega)),ht,s1⟩ ?_
 clear ht ho s1 t a b H1
 rintro j σ H1 hj ⟨c,d,a,b,t,v5,v6,rfl,h1,h2,h3,h4,h5,h6,ht,s1⟩
 walk_at "rd"
 refine Z5 (λz=>?_) λz=>?_
 ·have em:((c:Int)+(d:Int)) / 2=(((c+d) / 2:Nat):Int):=by omega
  rw[em]
  generalize hM:(c+d) / 2=M
  refine⟨_,WI.next,⟨by omega,by omega⟩,hf.same s1,hf.same s1,sp,hV,hsp M H1 _ (by omega) (by omega) s1 λy o H2 s2 ho hy=>?_⟩
  cases o with
  |none =>
   have hy:y=V.non:=hy
   subst hy
   rw[Yd rfl]
   exact⟨by omega,c,M,a,b,t,_,_,rfl,h1,by omega,by omega,by omega,h5,(λ_=>ho),s2 _ _ ht,s1.trans s2⟩
  |some ab =>
   obtain⟨a2,b2⟩:=ab
   obtain⟨t2,rfl,ht2⟩:=hy
   rw[Yb (λz=>nomatch z)]
   exact⟨by omega,M,d,a2,b2,t2,_,_,rfl,by omega,by omega,h3,by omega,ho,h6,ht2,s1.trans s2⟩
 ·refine⟨by decide,λq zq=>?_⟩
  have g1:=(Zg.refl H1).upd (o:=.tup [V.int (c:Int)]) zq
  have ed:d=c+1:=by omega
  subst ed
  exact⟨_,Zc,_,g1 _ _ ht,(show(3:Nat)<=sizeLine by decide),λu H2 s2 hu=>k1 u c a b H2 (s1.trans (g1.trans s2)) h1 (by omega) h5 (λy=>h6 (by omega)) hu⟩
theorem ZfR {f:Addr}{fd:FuncData} (F:Fun K "longest_twice" "longest_twice" ZY f fd) (ZcF:Callee P w K mg base "need_numbers" 1 ["row","fewest"] (Zao K mg)) (ZN:Callee P w K mg base "row_distances" 4 ["row"] (ZaG K mg)) (Ze6:Callee P w K mg base "twice_at" 4 ["told","size"] (Zed K mg)) (Zcy:Callee P w K mg base "longest" 8 ["most","pair_at"] (Zdx P w K mg base)) (L:LamD K mg "longest_twice" f) (B:BM mg base) (T:Txt K mg):FnOk P w K mg base (CXE P w) 9 f fd ["row"] (ZbD K mg):=by
 refine F.okL L B Zdn (λvs H Q E h=>?_) (λcdv A outer s H vs Q E LI hr h=>?_)
 ·obtain⟨r,ns,rfl,_⟩:=h;rfl
 obtain⟨r,ns,rfl,hr0,hn,hT,hE,k1⟩:=h
 refine⟨_,(Zd (Z4 (Zh ZcF (hr.mono (by decide)) rfl ZiF (Za (pv 0) (Za Ze Zb))))
   (Zd (Zr (i:=1) Zdn.nd rfl (Or.inr rfl) (Zh ZN (hr.mono (by decide)) rfl Zv (Za (pv 0) Zb)))
   (Zf (Zx (Zig (k:=6) (q:=ZjL "longest_twice") (P0:=Zg2 K mg "longest_twice") (pn:="size") (fr:=["told"]) (js:=[1]) ⟨rfl,rfl,rfl,rfl,rfl,rfl,λ_ _ _ _ _ _=>rfl,λ_=>rfl⟩ (λ_ _ _ _ _ _ _ _ hr=>(Zh Ze6 (hr.mono (by decide)) rfl Zv (Za (pv 1) (Za (pv 0) Zb)))) Zcy (hr.mono (by decide)) rfl (Za (Zo ZbX (Zp (Zs (K:=K) rfl) rfl T.b_len Yq (Za (pv 0) Zb)) Ze) (Za (Zoi ⟨LI.code,LI.bm,LI.ql⟩ rfl) Zb))))))),?_⟩
 walk_at "rd"
 have el:(ns.map V.int).length=ns.length:=Yg ..
 refine⟨r,ns,2,rfl,hr0,hn,by omega,by omega,λh2=>?_,λh2=>hE (by omega)⟩
 have h2:2<=ns.length:=by omega
 refine⟨r,ns,rfl,hr0,hn,λd H1 zd s1 hd=>⟨_,s1.q hr0,hT.same s1,λf1 H2 zf s2 LO=>⟨f1,rfl,LO,λcs H3 LT hfi hV=>?_⟩⟩⟩
 rw[el]
 refine⟨f1,ns.length-1,_,λn o=>ZiX (Zl ns n) (Zk ns.length n) o,by rw[show((ns.length:Int)-1)=((ns.length-1:Nat):Int) by omega],hfi,hV,by omega,by omega,λo ho=>?_,λn H5 R n1 n2 s5 hR=>⟨λb o u z=>s5 _ _ z,?_⟩,λt c a b H5 s5 c1 c2 hc hcn ht=>?_⟩
 ·cases o with
  |some _=>exact λz=>nomatch z
  |none =>
   have:=ho 0 1 (by omega) (by unfold Zk;omega)
   rw[Zn.mpr (ZlD ns ns 0 1)]at this;cases this
 ·unfold ZkI
  walk_at "rd"
  exact⟨d,ns,n,rfl,(LT.back s5) _ _ (s2 _ _ hd),hn,n1,by omega,λy o H6 ho hy s6 hz=>hR y o _ (ZjP s6) ho (prOn hz hy)⟩
 ·refine k1 h2 t c a b _ ((s1.trans s2).trans (LT.back s5)) ⟨c1,by omega,hc,?_⟩ (LT.tup s5 ht)
  by_cases z:c<ns.length-1
  ·exact hcn z
  ·intro x y hxy hy
   unfold Zk at hy;omega
theorem Zgv {f:Addr}{fd:FuncData} (F:Fun K "longest_both" "longest_both" Zae f fd) (ZaT:ZiR P w K mg base "need_numbers" 1 ["row","fewest"] [V.int 1] (Zao K mg)) (ZN:Callee P w K mg base "row_distances" 4 ["row"] (ZaG K mg)) (ZfU:Callee P w K mg base "both_at" 3 ["ones","others","size"] (Ze4 K mg)) (Zcy:Callee P w K mg base "longest" 8 ["most","pair_at"] (Zdx P w K mg base)) (L:LamD K mg "longest_both" f) (B:BM mg base) (T:Txt K mg):FnOk P w K mg base (CXE P w) 9 f fd ["one","other"] (Zb0 K mg):=by
 refine F.okL L B Zb2 (λvs H Q E h=>?_) (λcdv A outer s H vs Q E LI hr h=>?_)
 ·obtain⟨r,x,ns,ms,rfl,_⟩:=h;rfl
 obtain⟨r,x,ns,ms,rfl,hr0,hx0,hn,hm,hT,hE,k1⟩:=h
 refine⟨_,(Zd (Z4 (Zic ZaT (hr.mono (by decide)) rfl ZiF (Za (pv 0) Zb)))
   (Zd (Z4 (Zic ZaT (hr.mono (by decide)) rfl ZiF (Za (pv 1) Zb)))
   (Zd (Zr (i:=2) Zb2.nd rfl (Or.inr rfl) (Zh ZN (hr.mono (by decide)) rfl Zv (Za (pv 0) Zb)))
   (Zd (Zr (i:=3) Zb2.nd rfl (Or.inr rfl) (Zh ZN (hr.mono (by decide)) rfl Zv (Za (pv 1) Zb)))
   (Zf (Zx (Zig (k:=6) (q:=ZjL "longest_both") (P0:=Zg2 K mg "longest_both") (pn:="size") (fr:=["ones","others"]) (js:=[2,3]) ⟨rfl,rfl,rfl,rfl,rfl,rfl,λ_ _ _ _ _ _=>rfl,λ_=>rfl⟩ (λ_ _ _ _ _ _ _ _ hr=>(Zh ZfU (hr.mono (by decide)) rfl Zv (Za (pv 1) (Za (pv 2) (Za (pv 0) Zb))))) Zcy (hr.mono (by decide)) rfl (Za (Zp (ZhU rfl) rfl T.b_min Zkr (Za (Zp (Zs (K:=K) rfl) rfl T.b_len Yq (Za (pv 0) Zb)) (Za (Zp (Zs (K:=K) rfl) rfl T.b_len Yq (Za (pv 1) Zb)) Zb))) (Za (Zoi ⟨LI.code,LI.bm,LI.ql⟩ rfl) Zb))))))))),?_⟩
 walk_at "rd"
 have el:(ns.map V.int).length=ns.length:=Yg ..
 have em:(ms.map V.int).length=ms.length:=Yg ..
 refine⟨r,ns,1,rfl,hr0,hn,by omega,by omega,λh2=>?_,λh2=>hE (.inl (by omega))⟩
 refine⟨x,ms,1,rfl,hx0,hm,by omega,by omega,λh3=>?_,λh3=>hE (.inr (by omega))⟩
 refine⟨r,ns,rfl,hr0,hn,λd1 H0 zd1 s0 hd1=>⟨x,ms,rfl,s0.q hx0,hm,λd2 H1 zd2 s01 hd2=>⟨_,(s0.trans s01).q hr0,_,(s0.trans s01).q hx0,(hT.same s0).same s01,λf1 H2 zf s2 LO=>⟨f1,rfl,LO,λcs H3 LT hfi hV=>?_⟩⟩⟩⟩
 have s1:=s0.trans s01
 rw[el,em]
 refine⟨f1,min ns.length ms.length,_,λn o=>ZjQ (ZbZ ns ms n) (Zk ns.length n) (Zk ms.length n) o,?_,hfi,hV,by omega,by omega,λo ho=>?_,λn H5 R n1 n2 s5 hR=>⟨λb o u z=>s5 _ _ z,?_⟩,λt c a b H5 s5 c1 c2 hc hcn ht=>?_⟩
 ·congr 2
  split<;>omega
 ·cases o with
  |some _=>exact λz=>nomatch z
  |none =>
   have:=ho 0 0 (by unfold Zk;omega) (by unfold Zk;omega)
   rw[ZbG.mpr (ZlD ns ms 0 0)]at this;cases this
 ·unfold ZkI
  walk_at "rd"
  exact⟨d1,d2,ns,ms,n,rfl,(LT.back s5) _ _ (s2 _ _ (s01 _ _ hd1)),(LT.back s5) _ _ (s2 _ _ hd2),hn,hm,n1,by omega,λy o H6 ho hy s6 hz=>hR y o _ (ZjP s6) ho (prOn hz hy)⟩
 ·refine k1 (by omega) (by omega) t c a b _ ((s1.trans s2).trans (LT.back s5)) ⟨c1,by omega,by omega,hc,?_⟩ (LT.tup s5 ht)
  by_cases z:c<min ns.length ms.length
  ·exact hcn z
  ·intro x y hx hy
   unfold Zk at hx hy;omega
theorem nthV {ns:List Int}{i:Nat} (h:i<ns.length):(ns.map V.int)[i]?=some (V.int (nth ns i)):=by
 rw[Yw,Yf h]
 unfold nth
 rw[YB,Yf h];rfl
theorem Zou (ns:List Int) (lo hi:Option Int):∃ps:List Int,Zbx (ns.map V.int) lo hi=ps.map V.int/\ps.length<=ns.length:=by
 have h:=Zd6 (ns.map V.int) lo hi
 refine⟨(ns.drop (HT.sIx (ns.map V.int).length 0 lo)).take (HT.sIx (ns.map V.int).length (ns.map V.int).length hi-HT.sIx (ns.map V.int).length 0 lo),?_,?_⟩
 ·unfold Zbx
  rw[<-List.map_drop,<-List.map_take]
 ·rw[YJ,YT];omega
theorem ZeJ {f:Addr}{fd:FuncData} (F:Fun K "_law_first_twice" "_law_first_twice" ZL f fd) (Zai:Callee P w K mg base "_law_trees" 3 ["row","size"] (ZbM K mg)) (T:Txt K mg):FnOk P w K mg base (CXE P w) 4 f fd ["row","size"] (ZaN K mg):=by
 refine F.okX Zab (λvs H Q E h=>?_) (λcdv A outer s H vs Q E hr h=>?_)
 ·obtain⟨r,ns,c,rfl,_⟩:=h;rfl
 obtain⟨r,ns,c,rfl,hr1,hn,hc1,hc2,k1⟩:=h
 refine⟨_,(Zd (Zr (i:=2) Zab.nd rfl (Or.inr rfl) (Zh Zai (hr.mono (by decide)) rfl Zv (Za (pv 0) (Za (pv 1) Zb))))
   (Zd (Za7 (ZbW PassesOwn.never rfl (ZQ rfl T.b_range (Za (Zp (Zs (K:=K) rfl) rfl T.b_len Yq (Za (pv 2) Zb)) Zb)) (Zu (i:=3) Zab.nd rfl (Or.inr rfl)) (Zd (Zea (i:=4) ["other","trees","one"] [none,some 2,some 3] Zab.nd rfl (Or.inl rfl) rfl rfl rfl (ZhS rfl T.b_range (Za (Zo ZU (pv 3) Ze) (Za (Zp (Zs (K:=K) rfl) rfl T.b_len Yq (Za (pv 2) Zb)) Zb))) (λ_ _ _ _ _=>(Zu (i:=0) (show(["other","trees","one"]:List Str).Nodup from by decide +kernel) rfl (Or.inl rfl))) (λ_ _ _ _ _=>Zd8 (Zm (Zks (K:=K) rfl hr) (ZF (r:=rIxL K) ZA (pv 1) (pv 0) (λ_ _=>rfl)) (ZF (r:=rIxL K) ZA (pv 1) (pv 2) (λ_ _=>rfl)) (Zt _))) (λ_ _ _ _ _=>(pv 0)) ZH)
   (Zf (Zaa (Zm (Zkt (K:=K) rfl hr) (pv 4) (ZaM Zb) (Zt _)) (Zf (Zx (Zd5 (Za (pv 3) (Za (ZF ZA (pv 4) Ze (λ_ _=>rfl)) Zb))))) ZJ)))))
   (Zf (Zx ZeT)))),?_⟩
 walk_at "rd"
 have hm:Zk ns.length c<=1000:=by unfold Zk;omega
 refine⟨r,ns,c,rfl,hr1,hn,hc1,hc2,λq T H1 zq s1 hT hK=>⟨q,rfl,?_⟩⟩
 obtain⟨as,hq,hal,has⟩:=hK
 have hal':(as.map V.ref).length=Zk ns.length c:=by rw[Yg,hal]
 have hE:∀a b,a<Zk ns.length c->b<Zk ns.length c->Zl ns c a b=decide (T a=T b):=λa b ha hb=>ZkN (by unfold Zk at ha;omega) (by unfold Zk at hb;omega) (hT a ha) (hT b hb)
 generalize hm0:Zk ns.length c=m at hm hT hal hal' hE k1
 have eqT:∀(Hx:Hp) (i j:Nat) (hi:i<as.length) (hj:j<as.length),Zg H1 Hx->EqD K Hx 3 (V.ref as[i]) (V.ref as[j]) (decide (T i=T j)):=λHx i j hi hj sx=>ZgI (n:=2) Zfi _ _ (T i) (T j) (Zan (SqT.of (sx _ _ (has i hi)))) (Zan (SqT.of (sx _ _ (has j hj))))
 refine⟨_,.inl (SqL.of hq),by rw[hal'];omega,by rw[hal'];omega,?_⟩
 rw[hal',show((m:Int)).toNat=m by omega]
 refine Zbw (λj σ Hx=>∃v3 v4,σ=[some (.ref r),some (.int (c:Int)),some (.ref q),v3,v4]/\(∀a b,a<j->a<b->b<m->Zl ns c a b=false)/\Zg H1 Hx) ⟨_,_,rfl,(λa b h=>absurd h (by omega)),Zg.refl _⟩ ?_ ?_
 ·rintro j σ Hx hj ⟨v3,v4,rfl,hno,sx⟩
  have hja:j<as.length:=by omega
  refine ZaO (fun σ Hy=>∃l,σ=[some (.ref r),some (.int (c:Int)),some (.ref q),some (.int (j:Int)),some (.ref l)]/\Zg H1 Hy/\Hy l=some (.lst (((List.range (m-(j+1))).filter λb=>decide (T (j+1+b)=T j)).map λb=>V.int ((j+1+b:Nat):Int)))) (λR hR=>?_) ?_
  ·walk_at "rd"
   rw[show(0:Int)+(j:Int)=(j:Int) by omega]
   refine⟨_,.inl (SqL.of (sx _ _ hq)),by omega,by omega,by rw[hal'];omega,by rw[hal'];omega,?_⟩
   rw[hal',show((m:Int)-((j:Int)+1)).toNat=m-(j+1) by omega]
   refine ZeE (n:=m-(j+1)) (λb=>decide (T (j+1+b)=T j)) (λb=>V.int ((j+1+b:Nat):Int)) (YA (show _<=1000 by omega) (by decide)) (λi Hx s hi=>hi) (λHx s=>Ye _) ?_ ?_
   ·rintro i x Hy Hz hi s ⟨rfl,rfl⟩
    rw[show(j:Int)+1+(i:Int)=((j+1+i:Nat):Int) by omega]
    walk_at "rd"
    have hia:j+1+i<as.length:=by omega
    have g:=sx.trans s
    exact⟨_,SqL.of (g _ _ hq),_,ZgJ hia,_,SqL.of (g _ _ hq),_,ZgJ hja,_,rfl,_,rfl,_,eqT Hz _ j hia hja g,Z5 (λz=>CF.take hi z rfl s) λz=>CF.skip hi (by simpa using z) s⟩
   ·intro l H2 s2 zl
    exact hR _ _ ⟨l,rfl,(sx.trans s2).Zat zl,Zc⟩
  rintro σ Hy ⟨l,rfl,sy,hl⟩
  walk_at "rd"
  generalize hB:(List.range (m-(j+1))).filter (λb=>decide (T (j+1+b)=T j))=B at hl
  have mB:∀b,b∈B↔b<m-(j+1)/\T (j+1+b)=T j:=λb=>by rw[<-hB,YH,Yx,decide_eq_true_iff]
  have sB:B.Pairwise (· < ·):=by rw[<-hB];exact List.Pairwise.filter _ List.pairwise_lt_range
  refine⟨Ys _,λp hp=>?_⟩
  have g:=(Zg.refl Hy).upd (o:=.lst []) hp
  refine⟨_,Zmb (n:=2) (g _ _ hl) Zc,Z5 (λz=>?_) λz=>?_⟩
  ·cases B with
   |nil=>simp at z
   |cons b B' =>
    obtain⟨b1,b2⟩:=(mB b).mp (by simp)
    refine⟨_,SqL.of (g _ _ hl),V.int ((j+1+b:Nat):Int),(show atI _ ((0:Nat):Int)=_ from Zlg rfl),by decide,λq2 hq2=>k1 _ (some (j,j+1+b)) _ ⟨by omega,by omega,?_,λx y hxy hy hE'=>?_,λy hjy hy hE'=>?_⟩ ⟨q2,rfl,Zc⟩ (s1.trans ((sy.trans g).Zat hq2))⟩
    ·rw[hE _ _ (by omega) (by omega)];exact YF b2.symm
    ·rcases Nat.lt_or_ge x j with w|w
     ·rw[hno x y w hxy hy]at hE';cases hE'
     ·exact w
    ·rw[hE _ _ (by omega) (by omega)]at hE'
     have hm':=(mB (y-(j+1))).mpr ⟨by omega,by rw[show j+1+(y-(j+1))=y by omega];exact(of_decide_eq_true hE').symm⟩
     rcases Yk.mp hm' with w|w
     ·omega
     ·have:=(YW.mp sB).1 _ w;omega
  ·have eB:B=[]:=by simpa using z
   refine⟨λa b ha hab hb=>?_,sy.trans g⟩
   rcases Nat.lt_or_ge a j with w|w
   ·exact hno a b w hab hb
   ·have ea:a=j:=by omega
    subst ea
    rw[Bool.eq_false_iff];intro hE'
    rw[hE _ _ (by omega) (by omega)]at hE'
    have hm':=(mB (b-(a+1))).mpr ⟨by omega,by rw[show a+1+(b-(a+1))=b by omega];exact(of_decide_eq_true hE').symm⟩
    rw[eB]at hm';cases hm'
 ·rintro σ Hx ⟨v3,v4,rfl,hno,sx⟩
  walk_at "rd"
  exact k1 _ none _ (λa b hab hb=>hno a b (by omega) hab hb) rfl (s1.trans sx)
theorem Ze5 {f:Addr}{fd:FuncData} (F:Fun K "_law_first_both" "_law_first_both" ZM f fd) (Zai:Callee P w K mg base "_law_trees" 3 ["row","size"] (ZbM K mg)) (T:Txt K mg):FnOk P w K mg base (CXE P w) 4 f fd ["row","second","size"] (Za9 K mg):=by
 refine F.okX Zah (λvs H Q E h=>?_) (λcdv A outer s H vs Q E hr h=>?_)
 ·obtain⟨r,x,ns,ms,c,rfl,_⟩:=h;rfl
 obtain⟨r,x,ns,ms,c,rfl,hr1,hx1,hn,hm,hc1,hc2,k1⟩:=h
 refine⟨_,(Zd (Zr (i:=3) Zah.nd rfl (Or.inl rfl) (Zh Zai (hr.mono (by decide)) rfl Zv (Za (pv 0) (Za (pv 2) Zb))))
   (Zd (Zr (i:=4) Zah.nd rfl (Or.inl rfl) (Zh Zai (hr.mono (by decide)) rfl Zv (Za (pv 1) (Za (pv 2) Zb))))
   (Zd (Za7 (ZbW PassesOwn.never rfl (ZQ rfl T.b_range (Za (Zp (Zs (K:=K) rfl) rfl T.b_len Yq (Za (pv 3) Zb)) Zb)) (Zu (i:=5) Zah.nd rfl (Or.inl rfl)) (Zf (Zaa (Zm (op_inD (K:=K) rfl hr) (ZF ZA (pv 3) (pv 5) (λ_ _=>rfl)) (pv 4) (by with_unfolding_all rfl)) (Zf (Zx (Zd5 (Za (pv 5) (Za (Zdj PySem.F.plainAttrs_list PySem.F.slot_list_index PySem.F.type_list_index (Zmi (K:=K) rfl hr) (pv 4) (Za (ZF ZA (pv 3) (pv 5) (λ_ _=>rfl)) Zb)) Zb))))) ZJ))))
   (Zf (Zx ZeT))))),?_⟩
 walk_at "rd"
 have hm1:Zk ns.length c<=1000:=by unfold Zk;omega
 have hm2:Zk ms.length c<=1000:=by unfold Zk;omega
 refine⟨r,ns,c,rfl,hr1,hn,hc1,hc2,λq T H1 zq s1 hT hK=>⟨x,ms,c,rfl,s1 _ _ hx1,hm,hc1,hc2,λq2 U H2 zq2 s2 hU hK2=>⟨q,rfl,?_⟩⟩⟩
 obtain⟨as,hq,hal,has⟩:=hK
 obtain⟨bs,hq2,hbl,hbs⟩:=hK2
 replace hq:=s2 _ _ hq
 have hal':(as.map V.ref).length=Zk ns.length c:=by rw[Yg,hal]
 have hE:∀a b,a<Zk ns.length c->b<Zk ms.length c->ZbZ ns ms c a b=decide (U b=T a):=λa b ha hb=>by rw[ZjV (by unfold Zk at ha;omega) (by unfold Zk at hb;omega) (hT a ha) (hU b hb)];exact decide_eq_decide.mpr ⟨Eq.symm,Eq.symm⟩
 generalize Zk ns.length c=m at hm1 hT hal hal' hE k1
 generalize Zk ms.length c=m2 at hm2 hU hbl hE k1
 have eqT:∀(Hx:Hp) (i j:Nat) (hi:i<bs.length) (hj:j<as.length),Zg H2 Hx->EqD K Hx 3 (V.ref bs[i]) (V.ref as[j]) (decide (U i=T j)):=λHx i j hi hj sx=>ZgI (n:=2) Zfi _ _ (U i) (T j) (Zan (SqT.of (sx _ _ (hbs i hi)))) (Zan (SqT.of (sx _ _ (s2 _ _ (has j hj)))))
 refine⟨_,.inl (SqL.of hq),by rw[hal'];omega,by rw[hal'];omega,?_⟩
 rw[hal',show((m:Int)).toNat=m by omega]
 refine Zbw (λj σ Hx=>∃v5,σ=[some (.ref r),some (.ref x),some (.int (c:Int)),some (.ref q),some (.ref q2),v5]/\(∀a b,a<j->b<m2->ZbZ ns ms c a b=false)/\Zg H2 Hx) ⟨_,rfl,(λa b h=>absurd h (by omega)),Zg.refl _⟩ ?_ ?_
 ·rintro j σ Hx hj ⟨v5,rfl,hno,sx⟩
  have hja:j<as.length:=by omega
  walk_at "rd"
  rw[show(0:Int)+(j:Int)=(j:Int) by omega]
  have hEb:∀b (hb:b<bs.length),Zft Hx (T j) bs[b]=decide (U b=T j):=λb hb=>by
   have:=sx _ _ (hbs b hb)
   rw[Bool.eq_iff_iff,decide_eq_true_iff,Zmk,this]
   constructor
   ·intro z;injection z with z;injection z with z;exact ZlC z
   ·intro z;rw[z]
  have eqb:∀a∈bs,EqD K Hx 3 (V.ref a) (V.ref as[j]) (Zft Hx (T j) a):=λa ha=>by
   obtain⟨b,hb,rfl⟩:=Y2 ha
   rw[hEb b hb];exact eqT Hx b j hb hja sx
  have hqx:=sx _ _ hq
  have hqx2:=sx _ _ hq2
  refine⟨_,SqL.of hqx,_,ZgJ hja,as[j],rfl,bs,SqL.of hqx2,Zft Hx (T j),eqb,Z5 (λz=>?_) λz=>?_⟩
  ·have hex:∃x∈bs,Zft Hx (T j) x=true:=List.any_eq_true.mp z
   obtain⟨i,hi,hP,hmin⟩:∃i,∃hi:i<bs.length,Zft Hx (T j) bs[i]=true/\∀(k:Nat) (hk:k<i),Zft Hx (T j) (bs[k]'(by omega))=false:=by
    have hi:bs.findIdx (Zft Hx (T j))<bs.length:=List.findIdx_lt_length_of_exists hex
    exact⟨_,hi,List.findIdx_getElem,λk hk=>by simpa using List.not_of_lt_findIdx hk⟩
   refine⟨Z6 hqx2,_,SqL.of hqx,_,ZgJ hja,as[j],rfl,bs,SqL.of hqx2,by omega,Zft Hx (T j),eqb,i,⟨bs[i],Yf hi,hP⟩,λk a hk ha=>?_,by decide,λp hp=>k1 _ (some (j,i)) _ ⟨hj,by omega,?_,λx y hx hy hE'=>?_,λy hy hE'=>?_⟩ ⟨p,rfl,Zc⟩ ((s1.trans s2).trans (sx.Zat hp))⟩
   ·rw[Yf (by omega)]at ha
    cases ha
    exact hmin k hk
   ·rw[hE _ _ hj (by omega),<-hEb i hi];exact hP
   ·rcases Nat.lt_or_ge x j with w|w
    ·rw[hno x y w hy]at hE';cases hE'
    ·exact w
   ·rcases Nat.lt_or_ge y i with w|w
    ·rw[hE _ _ hj hy,<-hEb y (by omega),hmin y w]at hE';cases hE'
    ·exact w
  ·refine⟨λa b ha hb=>?_,sx⟩
   rcases Nat.lt_or_ge a j with w|w
   ·exact hno a b w hb
   ·have ea:a=j:=by omega
    subst ea
    rw[hE _ _ hj hb,<-hEb b (by omega),Bool.eq_false_iff]
    exact λy=>z (List.any_eq_true.mpr ⟨_,YM (by omega),y⟩)
 ·rintro σ Hx ⟨v5,rfl,hno,sx⟩
  walk_at "rd"
  exact k1 _ none _ (λa b ha hb=>hno a b ha hb) rfl ((s1.trans s2).trans sx)
theorem ZfS {f:Addr}{fd:FuncData} (F:Fun K "_law_is_three" "_law_is_three" Z0 f fd) (ZdA:Callee P w K mg base "_law_whole" 1 ["thing"] (Zc4 K mg)) (T:Txt K mg):FnOk P w K mg base (CXE P w) 2 f fd ["told"] (ZbE K mg):=by
 refine F.okX ZfN (λvs H Q E h=>?_) (λcdv A outer s H vs Q E hr h=>?_)
 ·obtain⟨t,c,a,b,rfl,_⟩:=h;rfl
 obtain⟨t,c,a,b,rfl,ht,hc,k1⟩:=h
 refine⟨_,(Zf (Zx (Ziu (Zp (Zmh (K:=K) rfl) rfl T.b_isinstance Zc0 (Za (pv 0) (Za (Zis (v:=.ty "tuple") rfl T.b_tuple Zd9 rfl) Zb))) (Ziu (Zk9 Zf9 (Zp (Zs (K:=K) rfl) rfl T.b_len Yq (Za (pv 0) Zb)) Ze (Zt _)) (Ziu (Zp (ZnX (K:=K) rfl rfl) rfl T.b_all bt_all (Za (ZbS ["part"] [none] rfl rfl rfl (pi_tup (pv 0)) (λ_ _ _ _ _=>(Zu (i:=0) (show(["part"]:List Str).Nodup from by decide +kernel) rfl (Or.inl rfl))) (λ_ _ _ _ _=>ZbR) (λ_ _ _ _ _=>(Zh ZdA (hr.mono (by decide)) rfl Zv (Za (pv 0) Zb))) ZH) Zb)) (ZnC (Zk9 ZeL (ZF Zby (pv 0) Ze (λ_ _=>rfl)) Ze (Zt _)))))))),?_⟩
 walk_at "rd"
 refine⟨_,SqT.of ht,_,.inr (SqT.of ht),Z5 (λ_=>⟨⟨_,SqT.of ht⟩,?_⟩) λz=>absurd rfl z⟩
 refine comp_map (n:=3) (λ_=>V.bl true) (by decide) (λj Hx s hj=>⟨_,_,SqT.of (s _ _ ht),Yf (by exact hj)⟩) (λHx s=>⟨_,SqT.of (s _ _ ht),by exact Ye _⟩) ?_ ?_
 ·rintro j v Hx Hy hj s ⟨rfl,hx⟩
  have ex:=hx _ (SqT.of (s _ _ ht))
  have:∃i:Int,v=V.int i:=by
   rcases(by omega:j=0\/j=1\/j=2)with rfl|rfl|rfl
   ·exact⟨c,(Yo ex).symm⟩
   ·exact⟨a,(Yo ex).symm⟩
   ·exact⟨b,(Yo ex).symm⟩
  obtain⟨i,rfl⟩:=this
  walk_at "rd"
  exact⟨i,rfl,CW.next hj rfl s⟩
 ·intro l Hx sx zl
  refine⟨l,rfl,[true,true,true],SqL.of Zc,Z5 (λ_=>⟨_,SqT.of ((sx.Zat zl) _ _ ht),_,rfl,c,rfl,?_⟩) λz=>absurd rfl z⟩
  rw[YF hc]
  exact k1 _ (sx.Zat zl)
theorem Zhc {f:Addr}{fd:FuncData} (F:Fun K "_law_second" "_law_second" Zas f fd) (Zq:Callee P w K mg base "_law_take" 1 ["pot","many"] (ZaF K mg)) (Z1:Callee P w K mg base "_law_wide_row" 3 ["pot"] (ZaH K mg)) (T:Txt K mg):FnOk P w K mg base (CXE P w) 4 f fd ["pot","row"] (ZcE K mg):=by
 refine F.okX Zaf (λvs H Q E h=>?_) (λcdv A outer s H vs Q E hr h=>?_)
 ·obtain⟨p,r,ns,rfl,_⟩:=h;rfl
 obtain⟨p,r,ns,rfl,hP,nrp,hr1,hn,k1⟩:=h
 refine⟨_,(Zd (Zr (i:=2) Zaf.nd rfl (Or.inl rfl) (Zh Z1 (hr.mono (by decide)) rfl Zv (Za (pv 0) Zb)))
   (Zd (Zaa (Zm Zf9 (Zh Zq (hr.mono (by decide)) rfl Zv (Za (pv 0) (Za Ze Zb))) Ze (Zt _)) (Zd (Zr (i:=3) Zaf.nd rfl (Or.inl rfl) (Zh Zq (hr.mono (by decide)) rfl Zv (Za (pv 0) (Za (Zo ZU (Zp (Zs (K:=K) rfl) rfl T.b_len Yq (Za (pv 1) Zb)) Ze) Zb))))
   (Zd (Zea (i:=4) ["number"] [none] Zaf.nd rfl (Or.inl rfl) rfl rfl rfl (ZgH (Zax Zco (pv 1) (Zau (pv 3)) (Zau (Zo ZU (Zo ZU (pv 3) Ze) (Zh Zq (hr.mono (by decide)) rfl Zv (Za (pv 0) (Za Ze Zb))))))) (λ_ _ _ _ _=>(Zu (i:=0) (show(["number"]:List Str).Nodup from by decide +kernel) rfl (Or.inl rfl))) (λ_ _ _ _ _=>ZbR) (λ_ _ _ _ _=>(Zo ZU (Zo Zbj Ze (pv 0)) Ze)) ZH)
   (Zd (Zr (i:=5) Zaf.nd rfl (Or.inl rfl) (Zh Zq (hr.mono (by decide)) rfl Zv (Za (pv 0) (Za (Zo ZU (Zp (Zs (K:=K) rfl) rfl T.b_len Yq (Za (pv 2) Zb)) Ze) Zb))))
   (Zf (Zr (i:=2) Zaf.nd rfl (Or.inl rfl) (Zax Zco (Zo ZiB (Zo ZiB (Zax Zco (pv 2) ZcP (Zau (pv 5))) (pv 4)) (Zax Zco (pv 2) (Zau (pv 5)) ZcP)) ZcP (Zau Ze))))))) ZJ)
   (Zf (Zx (pv 2))))),?_⟩
 refine ZaO (fun σ Hx=>∃(x:Addr) (ms:List Int),σ=[some (.ref p),some (.ref r),some (.ref x),none,none,none]/\H x=none/\ms.length<=40/\Hx x=some (.lst (ms.map V.int))/\Zz Hx p/\Exc p H Hx) (λR hR=>?_) ?_
 ·walk_at "rd"
  exact⟨p,rfl,hP,λx ms H1 zx lm hx P1 e1=>hR _ _ ⟨x,ms,rfl,zx,lm,hx,P1,e1⟩⟩
 rintro σ H1 ⟨x,ms,rfl,zx,lm,hx,P1,e1⟩
 have nxp:x≠p:=hP.ne zx
 refine ZaO (fun σ Hx=>∃(x:Addr) (ms:List Int) (v3 v4 v5:Option V),σ=[some (.ref p),some (.ref r),some (.ref x),v3,v4,v5]/\H x=none/\ms.length<=40/\Hx x=some (.lst (ms.map V.int))/\Zz Hx p/\Exc p H Hx) (λR hR=>?_) ?_
 ·refine ifR (λH2=>Zz H2 p/\Exc p H1 H2) (λH2=>Zz H2 p/\Exc p H1 H2) ?_ ?_ ?_
  ·rintro H2 ⟨P2,e2⟩
   have hr2:=e2 _ _ nrp (e1 _ _ nrp hr1)
   have hx2:=e2 _ _ nxp hx
   refine ZaO (fun σ Hx=>∃d:Nat,σ=[some (.ref p),some (.ref r),some (.ref x),some (.int (d:Int)),none,none]/\d<=ns.length/\Zz Hx p/\Exc p H2 Hx) (λR hR=>?_) ?_
   ·walk_at "rd"
    refine⟨_,.inl (SqL.of hr2),p,_,rfl,by omega,by rw[Yg];omega,P2,λd H3 d0 d1 P3 e3=>hR _ _ ⟨d.toNat,?_,?_,P3,e3⟩⟩
    ·rw[show((d.toNat:Nat):Int)=d by omega]
    ·rw[Yg]at d1;omega
   rintro σ H3 ⟨d,rfl,hd,P3,e3⟩
   replace hr2:=e3 _ _ nrp hr2
   replace hx2:=e3 _ _ nxp hx2
   refine ZaO (fun σ Hx=>∃(l:Addr) (ps:List Int),σ=[some (.ref p),some (.ref r),some (.ref x),some (.int (d:Int)),some (.ref l),none]/\ps.length<=1000/\l≠p/\Hx l=some (.lst (ps.map V.int))/\Zz Hx p/\Exc p H3 Hx) (λR hR=>?_) ?_
   ·walk_at "rd"
    refine⟨p,8,rfl,by decide,by decide,P3,λe H4 e0 e1' P4 e4=>⟨e,rfl,_,SqL.of (e4 _ _ nrp hr2),λq1 z1=>?_⟩⟩
    obtain⟨ps,ep,lp⟩:=Zou ns (some (d:Int)) (some ((d:Int)+2+e))
    rw[ep]
    have g1:=(Zg.refl H4).upd (o:=.lst (ps.map V.int)) z1
    refine⟨⟨_,SqL.of Zc⟩,?_⟩
    have hq1:upd H4 q1 (.lst (ps.map V.int)) q1=some (.lst (ps.map V.int)):=Zc
    refine comp_map (n:=ps.length) (λj=>V.int (2*nth ps j+1)) (YA (show _<=1000 by omega) (by decide)) (λj Hx s hj=>⟨_,_,SqL.of (s _ _ hq1),nthV hj⟩) (λHx s=>⟨_,SqL.of (s _ _ hq1),by rw[Yg];exact Ye _⟩) ?_ ?_
    ·rintro j v Hx Hy hj s ⟨rfl,hv⟩
     have:=hv _ (SqL.of (s _ _ hq1))
     rw[nthV hj]at this
     cases this
     walk_at "rd"
     exact⟨ZgS (by decide) (by decide),CW.next hj rfl s⟩
    ·intro l2 Hx sx zl
     have gg:=g1.trans sx
     exact hR _ _ ⟨l2,(List.range ps.length).map λj=>2*nth ps j+1,rfl,by simp;omega,(P4.same gg).ne zl,by rw[Zc,YU];rfl,P4.same (gg.Zat zl),e4.same (gg.Zat zl)⟩
   rintro σ H4 ⟨l,ps,rfl,lps,nlp,hl,P4,e4⟩
   replace hx2:=e4 _ _ nxp hx2
   refine ZaO (fun σ Hx=>∃d2:Nat,σ=[some (.ref p),some (.ref r),some (.ref x),some (.int (d:Int)),some (.ref l),some (.int (d2:Int))]/\d2<=ms.length/\Zz Hx p/\Exc p H4 Hx) (λR hR=>?_) ?_
   ·walk_at "rd"
    refine⟨_,.inl (SqL.of hx2),p,_,rfl,by omega,by rw[Yg];omega,P4,λd H5 d0 d1 P5 e5=>hR _ _ ⟨d.toNat,?_,?_,P5,e5⟩⟩
    ·rw[show((d.toNat:Nat):Int)=d by omega]
    ·rw[Yg]at d1;omega
   rintro σ H5 ⟨d2,rfl,hd2,P5,e5⟩
   replace hx2:=e5 _ _ nxp hx2
   replace hl:=e5 _ _ nlp hl
   have ee:=((e1.trans e2).trans (e3.trans e4)).trans e5
   walk_at "rd"
   have c1:Zbx (ms.map V.int) none (some (d2:Int))=(ms.take d2).map V.int:=by rw[Zkx];simp[List.map_take]
   have c2:Zbx (ms.map V.int) (some (d2:Int)) none=(ms.drop d2).map V.int:=by rw[Zl0];simp[List.map_drop]
   have c3:∀xs:List Int,Zbx (xs.map V.int) none (some 40)=(xs.take 40).map V.int:=λxs=>by
    have:=Zkx (xs.map V.int) 40
    rw[show(((40:Nat)):Int)=40 by omega]at this
    rw[this];simp[List.map_take]
   refine⟨_,SqL.of hx2,λq1 z1=>?_⟩
   rw[c1]
   have g1:=(Zg.refl H5).upd (o:=.lst ((ms.take d2).map V.int)) z1
   refine⟨_,Zc,_,g1 _ _ hl,Yj (show _<=2000 by rw[Yg,Yg,YJ];omega) (by decide),λq2 z2=>?_⟩
   rw[<-YD]at *
   have g2:=(Zg.refl _).upd (o:=.lst ((ms.take d2++ps).map V.int)) z2
   refine⟨_,SqL.of (g2 _ _ (g1 _ _ hx2)),λq3 z3=>?_⟩
   rw[c2]
   have g3:=(Zg.refl _).upd (o:=.lst ((ms.drop d2).map V.int)) z3
   refine⟨_,g3 _ _ Zc,_,Zc,Yj (show _<=4000 by rw[Yg,Yg,Yy,YJ,YT];omega) (by decide),λq4 z4=>?_⟩
   rw[<-YD]at *
   have g4:=(Zg.refl _).upd (o:=.lst ((ms.take d2++ps++ms.drop d2).map V.int)) z4
   refine⟨_,SqL.of Zc,λq5 z5=>?_⟩
   rw[c3]
   have g14:=g1.trans (g2.trans (g3.trans g4))
   have g5:=(Zg.refl _).upd (o:=.lst (((ms.take d2++ps++ms.drop d2).take 40).map V.int)) z5
   exact hR _ _ ⟨q5,_,_,_,_,rfl,ee.free ((P5.same g14).ne z5) (g14.free z5),by rw[YJ];omega,Zc,(P5.same g14).same g5,ee.same (g14.trans g5)⟩
  ·rintro H2 ⟨P2,e2⟩
   walk_at "rd"
   exact hR _ _ ⟨x,ms,_,_,_,rfl,zx,lm,e2 _ _ nxp hx,P2,e1.trans e2⟩
  ·intro B0 hT hU
   walk_at "rd"
   refine⟨p,2,rfl,by decide,by decide,P1,λd H2 d0 d1 P2 e2=>⟨by first|rfl|simp[ZiL],?_⟩⟩
   by_cases hd:d=0
   ·rw[show decide (V.int d=V.int 0)=true from YF (by rw[hd])]
    exact hT _ ⟨P2,e2⟩
   ·rw[show decide (V.int d=V.int 0)=false from YE (λz=>hd (V.int.inj z))]
    exact hU _ ⟨P2,e2⟩
 clear nxp hx P1 e1 lm zx ms x
 rintro σ H2 ⟨x,ms,v3,v4,v5,rfl,zx,lm,hx,P2,e2⟩
 walk_at "rd"
 exact k1 x ms _ zx lm hx P2 e2
theorem ok_law {f:Addr}{fd:FuncData} (F:Fun K "law" "law" s_law f fd) (ZaU:Callee P w K mg base "longest_twice" 9 ["row"] (ZbD K mg)) (Zbl:Callee P w K mg base "longest_both" 9 ["one","other"] (Zb0 K mg)) (Zeh:Callee P w K mg base "_law_deal" 1 ["script","k"] (Zdv K mg)) (ZaP:Callee P w K mg base "_law_either" 2 ["pot","some"] (ZcD K mg)) (Z1:Callee P w K mg base "_law_wide_row" 3 ["pot"] (ZaH K mg)) (Zaj:Callee P w K mg base "_law_first_twice" 4 ["row","size"] (ZaN K mg)) (Zav:Callee P w K mg base "_law_first_both" 4 ["row","second","size"] (Za9 K mg)) (ZaV:Callee P w K mg base "_law_is_three" 2 ["told"] (ZbE K mg)) (Zc9:Callee P w K mg base "_law_second" 4 ["pot","row"] (ZcE K mg)) (T:Txt K mg):FnOk P w K mg base (CXE P w) 10 f fd ["script"] (spLaw K mg):=by
 refine F.okX sc_law (λvs H Q E h=>?_) (λcdv A outer s H vs Q E hr h=>?_)
 ·obtain⟨a,ns,rfl,_⟩:=h;rfl
 obtain⟨sc,ss,rfl,hsc,hss,hTT,k1⟩:=h
 have hT1:ZkF K mg "longest_twice" H:=hTT (Zg2 K mg "longest_twice",ZjL "longest_twice") (by unfold tabsL;simp)
 have hT2:ZkF K mg "longest_both" H:=hTT (Zg2 K mg "longest_both",ZjL "longest_both") (by unfold tabsL;simp)
 refine⟨_,(Zd (Za7 (ZbW PassesOwn.never rfl (ZQ rfl T.b_range (Za (Zp (ZlJ rfl) rfl T.b_max ZnU (Za Ze (Za (Zp (ZhU rfl) rfl T.b_min Zkr (Za (Zp (Zs (K:=K) rfl) rfl T.b_len Yq (Za (pv 0) Zb)) (Za Ze Zb))) Zb))) Zb)) (Zu (i:=1) sc_law.nd rfl (Or.inl rfl)) (Zd (Zr (i:=2) sc_law.nd rfl (Or.inl rfl) (Zh Zeh (hr.mono (by decide)) rfl Zv (Za (pv 0) (Za (pv 1) Zb))))
   (Zd (Zr (i:=3) sc_law.nd rfl (Or.inl rfl) (Zh Z1 (hr.mono (by decide)) rfl Zv (Za (pv 2) Zb)))
   (Zd (Zr (i:=4) sc_law.nd rfl (Or.inl rfl) (Zh Zc9 (hr.mono (by decide)) rfl Zv (Za (pv 2) (Za (pv 3) Zb))))
   (Zd (Zaa (Zm ZeL (Zp (Zs (K:=K) rfl) rfl T.b_len Yq (Za (pv 3) Zb)) Ze (Zt _)) (Zd (Zr (i:=5) sc_law.nd rfl (Or.inl rfl) (Zh ZaP (hr.mono (by decide)) rfl Zv (Za (pv 2) (Za (pv 3) Zb))))
   (Zd (Zr (i:=6) sc_law.nd rfl (Or.inl rfl) (Zh ZaU (hr.mono (by decide)) rfl Zv (Za (pv 5) Zb)))
   (Zd (Zaa (PW.pt (ZgM (Zm (Ze3 (K:=K) rfl hr) (ZaA (Zdr (K:=K) rfl) rfl T.b_list Zfh (Za (pv 5) Zb)) (pv 3) (Zt _)) (ZgM (ZnB (ZnA (Zh ZaV (hr.mono (by decide)) rfl Zv (Za (pv 6) Zb)))) (ZgL (Zm (Zn6 op_ne (Zkt (K:=K) rfl hr)) (Zh Zaj (hr.mono (by decide)) rfl Zv (Za (pv 3) (Za (ZF Zby (pv 6) Ze (λ_ _=>rfl)) Zb))) (Zax ZnL (pv 6) (Zau Ze) ZcP) (Zt _)))))) (Zf (Zx ZhR)) ZJ)
   (Zf (Zaa (PW.pt (ZgM (Zm Zk8 (Zh Zaj (hr.mono (by decide)) rfl Zv (Za (pv 3) (Za (Zo ZU (ZF Zby (pv 6) Ze (λ_ _=>rfl)) Ze) Zb))) ZeT (Zt _)) (ZgL (Zm (Ze3 (K:=K) rfl hr) (Zh ZaU (hr.mono (by decide)) rfl Zv (Za (pv 3) Zb)) (pv 6) (Zt _))))) (Zf (Zx ZhR)) ZJ))))) ZJ)
   (Zf (Zaa (PW.pt (Zkg (Zm (Ze3 (K:=K) rfl hr) (pv 3) (ZaM Zb) (Zt _)) (Zit (Zm (Ze3 (K:=K) rfl hr) (pv 4) (ZaM Zb) (Zt _))))) (Zd (Zr (i:=7) sc_law.nd rfl (Or.inl rfl) (Zd5 (Za (Zh ZaP (hr.mono (by decide)) rfl Zv (Za (pv 2) (Za (pv 3) Zb))) (Za (Zh ZaP (hr.mono (by decide)) rfl Zv (Za (pv 2) (Za (pv 4) Zb))) Zb))))
   (Zd (Zr (i:=6) sc_law.nd rfl (Or.inl rfl) (Zh Zbl (hr.mono (by decide)) rfl Zv (Za (ZF Zby (pv 7) Ze (λ_ _=>rfl)) (Za (ZF Zby (pv 7) Ze (λ_ _=>rfl)) Zb))))
   (Zd (Zaa (PW.pt (ZgM (Zm (Ze3 (K:=K) rfl hr) (ZaA (Zdr (K:=K) rfl) rfl T.b_list Zfh (Za (ZF Zby (pv 7) Ze (λ_ _=>rfl)) Zb)) (pv 3) (Zt _)) (ZgM (Zm (Ze3 (K:=K) rfl hr) (ZaA (Zdr (K:=K) rfl) rfl T.b_list Zfh (Za (ZF Zby (pv 7) Ze (λ_ _=>rfl)) Zb)) (pv 4) (Zt _)) (ZgL (ZnB (ZnA (Zh ZaV (hr.mono (by decide)) rfl Zv (Za (pv 6) Zb)))))))) (Zf (Zx ZhR)) ZJ)
   (Zd (Zaa (Zm (Zn6 op_ne (Zkt (K:=K) rfl hr)) (Zh Zav (hr.mono (by decide)) rfl Zv (Za (pv 3) (Za (pv 4) (Za (ZF Zby (pv 6) Ze (λ_ _=>rfl)) Zb)))) (Zax ZnL (pv 6) (Zau Ze) ZcP) (Zt _)) (Zf (Zx ZhR)) ZJ)
   (Zf (Zaa (PW.pt (ZgM (Zm Zk8 (Zh Zav (hr.mono (by decide)) rfl Zv (Za (pv 3) (Za (pv 4) (Za (Zo ZU (ZF Zby (pv 6) Ze (λ_ _=>rfl)) Ze) Zb)))) ZeT (Zt _)) (ZgL (Zm (Ze3 (K:=K) rfl hr) (Zh Zbl (hr.mono (by decide)) rfl Zv (Za (pv 3) (Za (pv 4) Zb))) (pv 6) (Zt _))))) (Zf (Zx ZhR)) ZJ)))))) ZJ))))))))
   (Zf (Zx ZhR))),?_⟩
 walk_at "rd"
 refine⟨_,.inl hsc,by split<;>(try split)<;>omega,by split<;>(try split)<;>omega,?_⟩
 refine Zbw (λi σ Hx=>∃v1 v2 v3 v4 v5 v6 v7,σ=[some (.ref sc),v1,v2,v3,v4,v5,v6,v7]/\Zg H Hx) ⟨_,_,_,_,_,_,_,rfl,Zg.refl H⟩ ?_ ?_
 ·rintro i σ H' hi ⟨v1,v2,v3,v4,v5,v6,v7,rfl,hs⟩
  have hi8:i<16:=by
   revert hi
   split
   ·split<;>omega
   ·omega
  refine ZaO (fun σ Hx=>∃p,σ=[some (.ref sc),some (.int (0+(i:Int))),some (.ref p),v3,v4,v5,v6,v7]/\H p=none/\Zz Hx p/\Zg H Hx) (λR hR=>?_) ?_
  ·walk_at "rd"
   exact⟨sc,ss,_,rfl,hs.seq hsc,by omega,by omega,λp H1 hp s1 P1=>hR _ _ ⟨p,rfl,hs.free hp,P1,hs.trans s1⟩⟩
  rintro σ H1 ⟨p,rfl,zp,P1,s1⟩
  refine ZaO (fun σ Hx=>∃(r:Addr) (ns:List Int),σ=[some (.ref sc),some (.int (0+(i:Int))),some (.ref p),some (.ref r),v4,v5,v6,v7]/\r≠p/\ns.length<=40/\Hx r=some (.lst (ns.map V.int))/\Zz Hx p/\Zg H Hx) (λR hR=>?_) ?_
  ·walk_at "rd"
   exact⟨p,rfl,P1,λr ns H2 zr hn hr2 P2 e2=>hR _ _ ⟨r,ns,rfl,P1.ne zr,hn,hr2,P2,s1.exc zp e2⟩⟩
  clear P1 s1 H1
  rintro σ H2 ⟨r,ns,rfl,nrp,hn,hr2,P2,s2⟩
  refine ZaO (fun σ Hx=>∃(x:Addr) (ms:List Int),σ=[some (.ref sc),some (.int (0+(i:Int))),some (.ref p),some (.ref r),some (.ref x),v5,v6,v7]/\x≠p/\ms.length<=40/\Hx x=some (.lst (ms.map V.int))/\Hx r=some (.lst (ns.map V.int))/\Zz Hx p/\Zg H Hx) (λR hR=>?_) ?_
  ·walk_at "rd"
   exact⟨p,r,ns,rfl,P2,nrp,hr2,hn,λq ms H3 zq lm hq P3 e3=>hR _ _ ⟨q,ms,rfl,P2.ne zq,lm,hq,e3 _ _ nrp hr2,P3,s2.exc zp e3⟩⟩
  clear P2 s2 hr2 H2
  rintro σ H2 ⟨x,ms,rfl,nxp,hm,hx2,hr2,P2,s2⟩
  have fin2:∀(t:Addr) (c a b:Nat) (Hx:Hp),Zg4 ns c a b->ns.length<=40->c<=40:=λt c a b Hx h l=>by have:=h.2.1;omega
  refine ZaO (fun σ Hx=>∃v5 v6,σ=[some (.ref sc),some (.int (0+(i:Int))),some (.ref p),some (.ref r),some (.ref x),v5,v6,v7]/\Hx x=some (.lst (ms.map V.int))/\Hx r=some (.lst (ns.map V.int))/\Zz Hx p/\Zg H Hx) (λR hR=>?_) ?_
  ·refine ifR (λHx=>Hx=H2/\2<=ns.length) (λHx=>Hx=H2) ?_ ?_ ?_
   ·rintro Hx ⟨rfl,n2⟩
    refine ZaO (fun σ Hy=>∃u:Addr,σ=[some (.ref sc),some (.int (0+(i:Int))),some (.ref p),some (.ref r),some (.ref x),some (.ref u),v6,v7]/\(Hy u=some (.lst (ns.map V.int))\/Hy u=some (.tup (ns.map V.int)))/\Hy x=some (.lst (ms.map V.int))/\Hy r=some (.lst (ns.map V.int))/\Zz Hy p/\Zg H Hy) (λR hR=>?_) ?_
    ·walk_at "rd"
     exact⟨p,r,ns,rfl,P2,nrp,hr2,by omega,λu H3 zu hu P3 e3=>hR _ _ ⟨u,rfl,hu,e3 _ _ nxp hx2,e3 _ _ nrp hr2,P3,s2.exc zp e3⟩⟩
    clear P2 s2 hr2 hx2
    rintro σ H3 ⟨u,rfl,hu,hx2,hr2,P2,s2⟩
    refine ZaO (fun σ Hy=>∃(t:Addr) (c a b:Nat),σ=[some (.ref sc),some (.int (0+(i:Int))),some (.ref p),some (.ref r),some (.ref x),some (.ref u),some (.ref t),v7]/\Zg4 ns c a b/\Hy t=some (.tup [.int (c:Int),.int (a:Int),.int (b:Int)])/\Zg H3 Hy) (λR hR=>?_) ?_
    ·walk_at "rd"
     exact⟨u,ns,rfl,hu.imp SqL.of SqT.of,by omega,hT1.same s2,(λz=>absurd z (by omega)),λ_ t c a b H4 s4 hL ht=>hR _ _ ⟨t,c,a,b,rfl,hL,ht,s4⟩⟩
    rintro σ H4 ⟨t,c,a,b,rfl,hL,ht,s4⟩
    refine ZaO (fun σ Hy=>σ=[some (.ref sc),some (.int (0+(i:Int))),some (.ref p),some (.ref r),some (.ref x),some (.ref u),some (.ref t),v7]/\Zg H4 Hy) (λR hR=>?_) ?_
    ·walk_at "rd"
     have hr4:=s4 _ _ hr2
     refine⟨_,(hu.imp (λz=>SqL.of (s4 _ _ z)) (λz=>SqT.of (s4 _ _ z))),λl zl=>?_⟩
     have g1:=(Zg.refl H4).upd (o:=.lst (ns.map V.int)) zl
     refine⟨_,Zfr (n:=2) (K:=K) Zdu _ _ ns ns (Zam (SqL.of Zc)) (Zam (SqL.of (g1 _ _ hr4))),Z5 (λz=>absurd z (by simp)) λ_=>?_⟩
     refine⟨t,c,a,b,rfl,g1 _ _ ht,by have:=hL.1;omega,λH5 s5=>⟨true,rfl,Z5 (λz=>nomatch z) λ_=>?_⟩⟩
     have g5:=g1.trans s5
     refine⟨_,SqT.of (g5 _ _ ht),_,rfl,r,ns,c,rfl,g5 _ _ hr4,by omega,hL.1,by have:=hL.2.1;omega,λy o H6 ho hy s6=>?_⟩
     have g6:=g5.trans s6
     have e:=Zi1 ho hL.2.2.1
     subst e
     obtain⟨q,rfl,hq⟩:=hy
     unfold rSlT
     refine⟨t,_,rfl,SqT.of (g6 _ _ ht),(show ¬ (HT.sIx 3 0 (some 1)=0/\HT.sIx 3 3 none=3) by decide),λq2 z2=>?_⟩
     have ec:Zbx [V.int (c:Int),V.int (a:Int),V.int (b:Int)] (some 1) none=[V.int (a:Int),V.int (b:Int)]:=rfl
     rw[ec]
     have g7:=(Zg.refl H6).upd (o:=.tup [V.int (a:Int),V.int (b:Int)]) z2
     exact .inr ⟨q,rfl,q2,rfl,_,ZgI (n:=2) Zfi _ _ [(a:Int),(b:Int)] [(a:Int),(b:Int)] (Zan (SqT.of (g7 _ _ hq))) (Zan (SqT.of Zc)),Z5 (λz=>absurd z (by simp)) λ_=>hR _ _ ⟨rfl,g6.trans g7⟩⟩
    rintro σ H5 ⟨rfl,s5⟩
    walk_at "rd"
    have hr5:=s5 _ _ (s4 _ _ hr2)
    have ht5:=s5 _ _ ht
    refine⟨_,SqT.of ht5,_,rfl,_,rfl,r,ns,c+1,rfl,hr5,by omega,by omega,by have:=hL.2.1;omega,λy o H6 ho hy s6=>?_⟩
    have e:=Zi1 ho hL.2.2.2
    subst e
    refine Z5 (λz=>absurd hy z) λ_=>?_
    have s36:=s4.trans (s5.trans s6)
    refine⟨r,ns,rfl,.inl (SqL.of (s6 _ _ hr5)),by omega,hT1.same (s2.trans s36),(λz=>absurd z (by omega)),λ_ t2 c2 a2 b2 H7 s7 hL2 ht2=>⟨t2,rfl,_,ZlA (n:=2) (K:=K) Zdu _ _ [(c2:Int),(a2:Int),(b2:Int)] [(c:Int),(a:Int),(b:Int)] (Zan (SqT.of ht2)) (Zan (SqT.of (s7 _ _ (s6 _ _ ht5)))),?_⟩⟩
    obtain⟨rfl,rfl,rfl⟩:=ZkO hL2 hL
    have s37:=s36.trans s7
    exact Z5 (λz=>absurd z (by simp)) λ_=>hR _ _ ⟨_,_,rfl,s37 _ _ hx2,s37 _ _ hr2,P2.same s37,s2.trans s37⟩
   ·rintro Hx rfl
    walk_at "rd"
    exact hR _ _ ⟨_,_,rfl,hx2,hr2,P2,s2⟩
   ·intro B0 hT hU
    walk_at "rd"
    refine⟨_,.inl (SqL.of hr2),?_⟩
    rw[Yg]
    by_cases z:1<(ns.length:Int)
    ·rw[YF z];exact hT _ ⟨rfl,by omega⟩
    ·rw[YE z];exact hU _ rfl
  clear P2 s2 hr2 hx2 H2
  rintro σ H2 ⟨w5,w6,rfl,hx2,hr2,P2,s2⟩
  refine ifR (λHx=>Zg H2 Hx/\0<ns.length/\0<ms.length) (λHx=>Zg H2 Hx) ?_ ?_ ?_
  ·rintro Hx ⟨sx,n1,m1⟩
   replace hr2:=sx _ _ hr2
   replace hx2:=sx _ _ hx2
   replace P2:=P2.same sx
   replace s2:=s2.trans sx
   clear sx
   refine ZaO (fun σ Hy=>∃(h u1 u2:Addr),σ=[some (.ref sc),some (.int (0+(i:Int))),some (.ref p),some (.ref r),some (.ref x),w5,w6,some (.ref h)]/\Hy h=some (.tup [.ref u1,.ref u2])/\(Hy u1=some (.lst (ns.map V.int))\/Hy u1=some (.tup (ns.map V.int)))/\(Hy u2=some (.lst (ms.map V.int))\/Hy u2=some (.tup (ms.map V.int)))/\Hy x=some (.lst (ms.map V.int))/\Hy r=some (.lst (ns.map V.int))/\Zg H Hy) (λR hR=>?_) ?_
   ·walk_at "rd"
    refine⟨p,r,ns,rfl,P2,nrp,hr2,by omega,λu1 H3 zu1 hu1 P3 e3=>⟨p,x,ms,rfl,P3,nxp,e3 _ _ nxp hx2,by omega,λu2 H4 zu2 hu2 P4 e4=>⟨by decide,λh zh=>?_⟩⟩⟩
    have g:=(Zg.refl H4).upd (o:=.tup [V.ref u1,V.ref u2]) zh
    have n1:u1≠p:=P2.ne zu1
    exact hR _ _ ⟨h,u1,u2,rfl,Zc,hu1.imp (λz=>g _ _ (e4 _ _ n1 z)) (λz=>g _ _ (e4 _ _ n1 z)),hu2.imp (λz=>g _ _ z) (λz=>g _ _ z),g _ _ (e4 _ _ nxp (e3 _ _ nxp hx2)),g _ _ (e4 _ _ nrp (e3 _ _ nrp hr2)),(s2.exc zp (e3.trans e4)).trans g⟩
   clear P2 s2 hr2 hx2
   rintro σ H3 ⟨h,u1,u2,rfl,hh,hu1,hu2,hx2,hr2,s2⟩
   refine ZaO (fun σ Hy=>∃(t:Addr) (c a b:Nat),σ=[some (.ref sc),some (.int (0+(i:Int))),some (.ref p),some (.ref r),some (.ref x),w5,some (.ref t),some (.ref h)]/\Zih ns ms c a b/\Hy t=some (.tup [.int (c:Int),.int (a:Int),.int (b:Int)])/\Zg H3 Hy) (λR hR=>?_) ?_
   ·walk_at "rd"
    exact⟨_,SqT.of hh,_,rfl,_,SqT.of hh,_,rfl,u1,u2,ns,ms,rfl,hu1.imp SqL.of SqT.of,hu2.imp SqL.of SqT.of,by omega,by omega,hT2.same s2,(λz=>absurd z (by omega)),λ_ _ t c a b H4 s4 hL ht=>hR _ _ ⟨t,c,a,b,rfl,hL,ht,s4⟩⟩
   rintro σ H4 ⟨t,c,a,b,rfl,hL,ht,s4⟩
   refine ZaO (fun σ Hy=>σ=[some (.ref sc),some (.int (0+(i:Int))),some (.ref p),some (.ref r),some (.ref x),w5,some (.ref t),some (.ref h)]/\Zg H4 Hy) (λR hR=>?_) ?_
   ·walk_at "rd"
    have hr4:=s4 _ _ hr2
    have hx4:=s4 _ _ hx2
    have hh4:=s4 _ _ hh
    refine⟨_,SqT.of hh4,_,rfl,u1,rfl,_,hu1.imp (λz=>SqL.of (s4 _ _ z)) (λz=>SqT.of (s4 _ _ z)),λl zl=>?_⟩
    have g1:=(Zg.refl H4).upd (o:=.lst (ns.map V.int)) zl
    refine⟨_,Zfr (n:=2) (K:=K) Zdu _ _ ns ns (Zam (SqL.of Zc)) (Zam (SqL.of (g1 _ _ hr4))),Z5 (λz=>absurd z (by simp)) λ_=>?_⟩
    have s5:=s4.trans g1
    refine⟨_,SqT.of (g1 _ _ hh4),_,rfl,u2,rfl,_,hu2.imp (λz=>SqL.of (s5 _ _ z)) (λz=>SqT.of (s5 _ _ z)),λl2 zl2=>?_⟩
    have g2:=(Zg.refl _).upd (o:=.lst (ms.map V.int)) zl2
    refine⟨_,Zfr (n:=2) (K:=K) Zdu _ _ ms ms (Zam (SqL.of Zc)) (Zam (SqL.of (g2 _ _ (g1 _ _ hx4)))),Z5 (λz=>absurd z (by simp)) λ_=>?_⟩
    exact⟨t,c,a,b,rfl,g2 _ _ (g1 _ _ ht),by have:=hL.1;omega,λH5 s5=>⟨true,rfl,Z5 (λz=>nomatch z) λ_=>hR _ _ ⟨rfl,g1.trans (g2.trans s5)⟩⟩⟩
   rintro σ H5 ⟨rfl,s5⟩
   refine ZaO (fun σ Hy=>σ=[some (.ref sc),some (.int (0+(i:Int))),some (.ref p),some (.ref r),some (.ref x),w5,some (.ref t),some (.ref h)]/\Zg H4 Hy) (λR hR=>?_) ?_
   ·walk_at "rd"
    have hr5:=s5 _ _ (s4 _ _ hr2)
    have hx5:=s5 _ _ (s4 _ _ hx2)
    have ht5:=s5 _ _ ht
    refine⟨_,SqT.of ht5,_,rfl,r,x,ns,ms,c,rfl,hr5,hx5,by omega,by omega,hL.1,by have:=hL.2.1;omega,λy o H6 ho hy s6=>?_⟩
    have g6:=s5.trans s6
    have e:=Zi2 ho hL.2.2.2.1
    subst e
    obtain⟨q,rfl,hq⟩:=hy
    unfold rSlT
    refine⟨t,_,rfl,SqT.of (g6 _ _ ht),(show ¬ (HT.sIx 3 0 (some 1)=0/\HT.sIx 3 3 none=3) by decide),λq2 z2=>?_⟩
    have ec:Zbx [V.int (c:Int),V.int (a:Int),V.int (b:Int)] (some 1) none=[V.int (a:Int),V.int (b:Int)]:=rfl
    rw[ec]
    have g7:=(Zg.refl H6).upd (o:=.tup [V.int (a:Int),V.int (b:Int)]) z2
    exact .inr ⟨q,rfl,q2,rfl,_,ZgI (n:=2) Zfi _ _ [(a:Int),(b:Int)] [(a:Int),(b:Int)] (Zan (SqT.of (g7 _ _ hq))) (Zan (SqT.of Zc)),Z5 (λz=>absurd z (by simp)) λ_=>hR _ _ ⟨rfl,g6.trans g7⟩⟩
   clear s5 H5
   rintro σ H5 ⟨rfl,s5⟩
   walk_at "rd"
   have hr5:=s5 _ _ (s4 _ _ hr2)
   have hx5:=s5 _ _ (s4 _ _ hx2)
   have ht5:=s5 _ _ ht
   refine⟨_,SqT.of ht5,_,rfl,_,rfl,r,x,ns,ms,c+1,rfl,hr5,hx5,by omega,by omega,by omega,by have:=hL.2.1;omega,λy o H6 ho hy s6=>?_⟩
   have e:=Zi2 ho hL.2.2.2.2
   subst e
   refine Z5 (λz=>absurd hy z) λ_=>?_
   have s36:=s4.trans (s5.trans s6)
   refine⟨r,x,ns,ms,rfl,.inl (SqL.of (s6 _ _ hr5)),.inl (SqL.of (s6 _ _ hx5)),by omega,by omega,hT2.same (s2.trans s36),(λz=>absurd z (by omega)),λ_ _ t2 c2 a2 b2 H7 s7 hL2 ht2=>⟨t2,rfl,_,ZlA (n:=2) (K:=K) Zdu _ _ [(c2:Int),(a2:Int),(b2:Int)] [(c:Int),(a:Int),(b:Int)] (Zan (SqT.of ht2)) (Zan (SqT.of (s7 _ _ (s6 _ _ ht5)))),?_⟩⟩
   obtain⟨rfl,rfl,rfl⟩:=ZkP hL2 hL
   have s37:=s36.trans s7
   exact Z5 (λz=>absurd z (by simp)) λ_=>s2.trans s37
  ·rintro Hx sx
   walk_at "rd"
   exact s2.trans sx
  ·intro B0 hT hU
   walk_at "rd"
   refine⟨Ys _,λp1 z1=>?_⟩
   have g1:=(Zg.refl H2).upd (o:=.lst []) z1
   refine⟨_,Zfr (n:=2) (K:=K) Zdu _ _ ns [] (Zam (SqL.of (g1 _ _ hr2))) (Zam (SqL.of Zc)),Z5 (λz=>?_) λz=>?_⟩
   ·refine⟨Ys _,λp2 z2=>?_⟩
    have g2:=(Zg.refl _).upd (o:=.lst []) z2
    refine⟨_,Zfr (n:=2) (K:=K) Zdu _ _ ms [] (Zam (SqL.of (g2 _ _ (g1 _ _ hx2)))) (Zam (SqL.of Zc)),?_⟩
    have n1:ns≠[]:=of_decide_eq_false z
    by_cases m1:ms=[]
    ·rw[YF m1];exact hU _ (g1.trans g2)
    ·rw[YE m1];exact hT _ ⟨g1.trans g2,List.length_pos_iff.mpr n1,List.length_pos_iff.mpr m1⟩
   ·exact hU _ g1
 ·rintro σ Hx ⟨v1,v2,v3,v4,v5,v6,v7,rfl,sx⟩
  walk_at "rd"
  exact k1 _
end
theorem all_mk {l:PySem.W.OpenLaw}{w:World}{K:PySem.W.Frag}{h:Heap}{mg:Str->Option Value}{fa:Addr}{ts:List Addr} (X:K.In h) (G:h.Ns mainGlobals mg) (hfa:mg "law"=some (.ref fa))
  {ZdN:Tok}{oc3_need_numbers:Value}{od3_need_numbers:Option Addr}{Zgw:Nat}{sl3_need_numbers:Array (Option Value)}
  (Zbm:nsIn K mainGlobals "need_numbers"=some (some (.ref Zei))) (ZcG:K.lookup Zei=some ⟨Zm7,Zm8,.func (fnOf "need_numbers" "need_numbers" (defArgs Zac) (defBody Zac) (defScope Zac) (.ref Zhf) Zm9 Zna Znb Znc Zgx Znd),Zne⟩) (ZcH:codeIn K Zgx "need_numbers"=true) (Zaz:keepIn K (.ref Zei)=true)
  (Zbn:K.lookup Zhf=some ⟨oc3_need_numbers,od3_need_numbers,.seq #[.int 1 ZdN] Zgw,sl3_need_numbers⟩)
  (Zhg:nsIn K mainGlobals "settle"=some (some (.ref ZjX))) (Zhh:K.lookup ZjX=some ⟨Zre,Zrf,.func (fnOf "settle" "settle" (defArgs s_settle) (defBody s_settle) (defScope s_settle) .none Zrg Zrh Zri Zrj Zml Zrk),Zrl⟩) (Zhi:codeIn K Zml "settle"=true) (Zfu:keepIn K (.ref ZjX)=true)
  (ZfV:nsIn K mainGlobals "tree_of"=some (some (.ref Zij))) (ZfW:K.lookup Zij=some ⟨ZqL,ZqM,.func (fnOf "tree_of" "tree_of" (defArgs s_tree_of) (defBody s_tree_of) (defScope s_tree_of) .none ZqN ZqO ZqP ZqQ ZkS ZqR),ZqS⟩) (ZfX:codeIn K ZkS "tree_of"=true) (ZeG:keepIn K (.ref Zij)=true)
  (Zhj:nsIn K mainGlobals "way_up"=some (some (.ref ZjY))) (Zhk:K.lookup ZjY=some ⟨Zrm,Zrn,.func (fnOf "way_up" "way_up" (defArgs s_way_up) (defBody s_way_up) (defScope s_way_up) .none Zro Zrp Zrq Zrr Zmm Zrs),Zrt⟩) (Zhl:codeIn K Zmm "way_up"=true) (Zfv:keepIn K (.ref ZjY)=true)
  (Zej:nsIn K mainGlobals "fences_of"=some (some (.ref Zgf))) (Zek:K.lookup Zgf=some ⟨ZpQ,ZpR,.func (fnOf "fences_of" "fences_of" (defArgs s_fences_of) (defBody s_fences_of) (defScope s_fences_of) .none ZpS ZpT ZpU ZpV Zi3 ZpW),ZpX⟩) (Zel:codeIn K Zi3 "fences_of"=true) (ZcS:keepIn K (.ref Zgf)=true)
  (Zb4:nsIn K mainGlobals "distance_list"=some (some (.ref ZdO))) (Zb5:K.lookup ZdO=some ⟨Zmn,Zmo,.func (fnOf "distance_list" "distance_list" (defArgs ZW) (defBody ZW) (defScope ZW) .none Zmp Zmq Zmr Zms ZfY Zmt),Zmu⟩) (Zb6:codeIn K ZfY "distance_list"=true) (ZaW:keepIn K (.ref ZdO)=true)
  (Zb7:nsIn K mainGlobals "row_distances"=some (some (.ref ZdP))) (Zb8:K.lookup ZdP=some ⟨Zmv,Zmw,.func (fnOf "row_distances" "row_distances" (defArgs ZX) (defBody ZX) (defScope ZX) .none Zmx Zmy Zmz ZmA ZfZ ZmB),ZmC⟩) (Zb9:codeIn K ZfZ "row_distances"=true) (ZaX:keepIn K (.ref ZdP)=true)
  (Zda:nsIn K mainGlobals "seen_within"=some (some (.ref ZeM))) (Zdb:K.lookup ZeM=some ⟨Zov,Zow,.func (fnOf "seen_within" "seen_within" (defArgs Zaq) (defBody Zaq) (defScope Zaq) .none Zox Zoy Zoz ZoA Zhm ZoB),ZoC⟩) (Zdc:codeIn K Zhm "seen_within"=true) (ZbN:keepIn K (.ref ZeM)=true)
  (ZcI:nsIn K mainGlobals "stretch_keys"=some (some (.ref Zem))) (ZcJ:K.lookup Zem=some ⟨Znf,Zng,.func (fnOf "stretch_keys" "stretch_keys" (defArgs Zad) (defBody Zad) (defScope Zad) .none Znh Zni Znj Znk Zgy Znl),Znm⟩) (ZcK:codeIn K Zgy "stretch_keys"=true) (Zbo:keepIn K (.ref Zem)=true)
  (Zen:nsIn K mainGlobals "groups_by"=some (some (.ref Zgg))) (Zeo:K.lookup Zgg=some ⟨ZpY,ZpZ,.func (fnOf "groups_by" "groups_by" (defArgs Zbf) (defBody Zbf) (defScope Zbf) .none Zp0 Zp1 Zp2 Zp3 Zi4 Zp4),Zp5⟩) (Zep:codeIn K Zi4 "groups_by"=true) (ZcT:keepIn K (.ref Zgg)=true)
  (Ze7:nsIn K mainGlobals "twice_at"=some (some (.ref Zhn))) (Ze8:K.lookup Zhn=some ⟨Zqu,Zqv,.func (fnOf "twice_at" "twice_at" (defArgs ZbA) (defBody ZbA) (defScope ZbA) .none Zqw Zqx Zqy Zqz ZjZ ZqA),ZqB⟩) (Ze9:codeIn K ZjZ "twice_at"=true) (ZdB:keepIn K (.ref Zhn)=true)
  (Zf0:nsIn K mainGlobals "both_at"=some (some (.ref Zik))) (Zf1:K.lookup Zik=some ⟨ZqT,ZqU,.func (fnOf "both_at" "both_at" (defArgs Zcw) (defBody Zcw) (defScope Zcw) .none ZqV ZqW ZqX ZqY ZkT ZqZ),Zq0⟩) (Zf2:codeIn K ZkT "both_at"=true) (ZeH:keepIn K (.ref Zik)=true)
  (Zf3:nsIn K mainGlobals "longest"=some (some (.ref Zil))) (Zf4:K.lookup Zil=some ⟨Zq1,Zq2,.func (fnOf "longest" "longest" (defArgs Zcx) (defBody Zcx) (defScope Zcx) .none Zq3 Zq4 Zq5 Zq6 ZkU Zq7),Zq8⟩) (Zf5:codeIn K ZkU "longest"=true) (ZeI:keepIn K (.ref Zil)=true)
  (ZaY:nsIn K mainGlobals "longest_twice"=some (some (.ref Zca))) (ZaZ:K.lookup Zca=some ⟨ZmD,ZmE,.func (fnOf "longest_twice" "longest_twice" (defArgs ZY) (defBody ZY) (defScope ZY) .none ZmF ZmG ZmH ZmI Zdo ZmJ),ZmK⟩) (Zcb:codeIn K Zdo "longest_twice"=true) (Za0:keepIn K (.ref Zca)=true)
  (ZbH:Zdo=.ref ZaI) (ZbI:K.lookup ZaI=some ⟨ZmL,ZmM,.fields Zf6,ZmN⟩) (ZbJ:Zf6[11]?=some (.ref ZaJ)) (ZaK:PySem.W.codeHdIn K ZaI ZaJ=true) (ZbK:K.lookup ZaJ=none) (ZbL:ZaJ∈ts)
  (Zbp:nsIn K mainGlobals "longest_both"=some (some (.ref ZcL))) (Zbq:K.lookup ZcL=some ⟨Znn,Zno,.func (fnOf "longest_both" "longest_both" (defArgs Zae) (defBody Zae) (defScope Zae) .none Znp Znq Znr Zns ZdQ Znt),Znu⟩) (ZcM:codeIn K ZdQ "longest_both"=true) (Zbr:keepIn K (.ref ZcL)=true)
  (Zcc:ZdQ=.ref Za1) (Zcd:K.lookup Za1=some ⟨Znv,Znw,.fields Zgz,Znx⟩) (Zce:Zgz[11]?=some (.ref Za2)) (Za3:PySem.W.codeHdIn K Za1 Za2=true) (Zcf:K.lookup Za2=none) (Zcg:Za2∈ts)
  (Zeq:nsIn K mainGlobals "_law_deal"=some (some (.ref Zgh))) (Zer:K.lookup Zgh=some ⟨Zp6,Zp7,.func (fnOf "_law_deal" "_law_deal" (defArgs Zbg) (defBody Zbg) (defScope Zbg) .none Zp8 Zp9 Zqa Zqb Zi5 Zqc),Zqd⟩) (Zes:codeIn K Zi5 "_law_deal"=true) (ZcU:keepIn K (.ref Zgh)=true)
  (Zet:nsIn K mainGlobals "_law_take"=some (some (.ref Zgi))) (Zeu:K.lookup Zgi=some ⟨Zqe,Zqf,.func (fnOf "_law_take" "_law_take" (defArgs Zbh) (defBody Zbh) (defScope Zbh) .none Zqg Zqh Zqi Zqj Zi6 Zqk),Zql⟩) (Zev:codeIn K Zi6 "_law_take"=true) (ZcV:keepIn K (.ref Zgi)=true)
  (ZdC:nsIn K mainGlobals "_law_whole"=some (some (.ref Zfw))) (ZdD:K.lookup Zfw=some ⟨Zo0,Zo1,.func (fnOf "_law_whole" "_law_whole" (defArgs ZaC) (defBody ZaC) (defScope ZaC) .none Zo2 Zo3 Zo4 Zo5 ZhK Zo6),Zo7⟩) (ZdE:codeIn K ZhK "_law_whole"=true) (Zcs:keepIn K (.ref Zfw)=true)
  (Zfa:nsIn K mainGlobals "_law_row"=some (some (.ref Zho))) (Zfb:K.lookup Zho=some ⟨ZqC,ZqD,.func (fnOf "_law_row" "_law_row" (defArgs ZbB) (defBody ZbB) (defScope ZbB) .none ZqE ZqF ZqG ZqH Zj0 ZqI),ZqJ⟩) (Zfc:codeIn K Zj0 "_law_row"=true) (ZdF:keepIn K (.ref Zho)=true)
  (ZdG:nsIn K mainGlobals "_law_elder"=some (some (.ref Zfx))) (ZdH:K.lookup Zfx=some ⟨Zo8,Zo9,.func (fnOf "_law_elder" "_law_elder" (defArgs ZaD) (defBody ZaD) (defScope ZaD) .none Zpa Zpb Zpc Zpd ZhL Zpe),Zpf⟩) (ZdI:codeIn K ZhL "_law_elder"=true) (Zct:keepIn K (.ref Zfx)=true)
  (Zew:nsIn K mainGlobals "_law_tree"=some (some (.ref Zgj))) (Zex:K.lookup Zgj=some ⟨Zqm,Zqn,.func (fnOf "_law_tree" "_law_tree" (defArgs s__law_tree) (defBody s__law_tree) (defScope s__law_tree) .none Zqo Zqp Zqq Zqr Zi7 Zqs),Zqt⟩) (Zey:codeIn K Zi7 "_law_tree"=true) (ZcW:keepIn K (.ref Zgj)=true)
  (Zdd:nsIn K mainGlobals "_law_either"=some (some (.ref ZeN))) (Zde:K.lookup ZeN=some ⟨ZoD,ZoE,.func (fnOf "_law_either" "_law_either" (defArgs Zar) (defBody Zar) (defScope Zar) .none ZoF ZoG ZoH ZoI Zhp ZoJ),ZoK⟩) (Zdf:codeIn K Zhp "_law_either"=true) (ZbO:keepIn K (.ref ZeN)=true)
  (Zch:nsIn K mainGlobals "_law_wide_row"=some (some (.ref ZdR))) (Zci:K.lookup ZdR=some ⟨ZmO,ZmP,.func (fnOf "_law_wide_row" "_law_wide_row" (defArgs ZZ) (defBody ZZ) (defScope ZZ) .none ZmQ ZmR ZmS ZmT Zf7 ZmU),ZmV⟩) (Zcj:codeIn K Zf7 "_law_wide_row"=true) (Za4:keepIn K (.ref ZdR)=true)
  (ZdJ:nsIn K mainGlobals "_law_trees"=some (some (.ref Zfy))) (ZdK:K.lookup Zfy=some ⟨Zpg,Zph,.func (fnOf "_law_trees" "_law_trees" (defArgs ZaE) (defBody ZaE) (defScope ZaE) .none Zpi Zpj Zpk Zpl ZhM Zpm),Zpn⟩) (ZdL:codeIn K ZhM "_law_trees"=true) (Zcu:keepIn K (.ref Zfy)=true)
  (Zbb:nsIn K mainGlobals "_law_first_twice"=some (some (.ref ZcN))) (Zbc:K.lookup ZcN=some ⟨Zj8,Zj9,.func (fnOf "_law_first_twice" "_law_first_twice" (defArgs ZL) (defBody ZL) (defScope ZL) .none Zka Zkb Zkc Zkd ZeK Zke),Zkf⟩) (Zbd:codeIn K ZeK "_law_first_twice"=true) (Zak:keepIn K (.ref ZcN)=true)
  (Zbs:nsIn K mainGlobals "_law_first_both"=some (some (.ref ZcX))) (Zbt:K.lookup ZcX=some ⟨ZkV,ZkW,.func (fnOf "_law_first_both" "_law_first_both" (defArgs ZM) (defBody ZM) (defScope ZM) .none ZkX ZkY ZkZ Zk0 Zfd Zk1),Zk2⟩) (Zbu:codeIn K Zfd "_law_first_both"=true) (Zaw:keepIn K (.ref ZcX)=true)
  (Zck:nsIn K mainGlobals "_law_is_three"=some (some (.ref ZdS))) (Zcl:K.lookup ZdS=some ⟨ZmW,ZmX,.func (fnOf "_law_is_three" "_law_is_three" (defArgs Z0) (defBody Z0) (defScope Z0) .none ZmY ZmZ Zm0 Zm1 Zf8 Zm2),Zm3⟩) (Zcm:codeIn K Zf8 "_law_is_three"=true) (Za5:keepIn K (.ref ZdS)=true)
  (Zdg:nsIn K mainGlobals "_law_second"=some (some (.ref ZeO))) (Zdh:K.lookup ZeO=some ⟨ZoL,ZoM,.func (fnOf "_law_second" "_law_second" (defArgs Zas) (defBody Zas) (defScope Zas) .none ZoN ZoO ZoP ZoQ Zhq ZoR),ZoS⟩) (Zdi:codeIn K Zhq "_law_second"=true) (ZbP:keepIn K (.ref ZeO)=true)
  (ZoT:nsIn K mainGlobals "law"=some (some (.ref ZqK))) (ZoU:K.lookup ZqK=some ⟨Zrv,Zrw,.func (fnOf "law" "law" (defArgs s_law) (defBody s_law) (defScope s_law) .none Zq9 Zra Zrb Zrc ZoV Zrd),Zrx⟩) (ZoW:codeIn K ZoV "law"=true) (ZoX:keepIn K (.ref ZqK)=true)
  {C_DipError:Addr} (n_DipError:nsIn K mainGlobals "DipError"=some (some (.ref C_DipError))) (x_DipError:PySem.W.excIn K C_DipError bmV newV=true) (d_DipError:PySem.W.hasDictIn K C_DipError=true) (y_DipError:PySem.W.typeIn K (.ref C_DipError)=some (.type "type"))
  {C_Empty:Addr} (n_Empty:nsIn K mainGlobals "Empty"=some (some (.ref C_Empty))) (x_Empty:PySem.W.excIn K C_Empty bmV newV=true) (d_Empty:PySem.W.hasDictIn K C_Empty=true) (y_Empty:PySem.W.typeIn K (.ref C_Empty)=some (.type "type"))
  (b_all:nsIn K mainGlobals "all"=some none)
  (b_bool:nsIn K mainGlobals "bool"=some none)
  (b_enumerate:nsIn K mainGlobals "enumerate"=some none)
  (b_int:nsIn K mainGlobals "int"=some none)
  (b_isinstance:nsIn K mainGlobals "isinstance"=some none)
  (b_len:nsIn K mainGlobals "len"=some none)
  (b_list:nsIn K mainGlobals "list"=some none)
  (b_max:nsIn K mainGlobals "max"=some none)
  (b_min:nsIn K mainGlobals "min"=some none)
  (b_range:nsIn K mainGlobals "range"=some none)
  (b_tuple:nsIn K mainGlobals "tuple"=some none)
  (nd:[ZaJ,Za2].Nodup)
  : ∃fd:FuncData,(∀(s:Shared) (v:Value),BindsTo s fd ⟨[v],[]⟩ [("script",v)])/\(∀p∈tabsL K mg,p.1∈ts/\K.lookup p.1=none/\∃c,PySem.W.codeHdIn K c p.1=true)/\((tabsL K mg).map (·.1)).Nodup/\∀base:Heap,K.In base->base.Ns mainGlobals mg->BM mg base->FnOk l.prog w K mg base (CXE l.prog w) 10 fa fd ["script"] (spLaw K mg):=by
 have e:=hfa.symm.trans (mg_of X G ZoT)
 cases e
 have q_DipError:clsAt mg "DipError"=C_DipError:=by unfold clsAt;rw[mg_of X G n_DipError]
 have q_Empty:clsAt mg "Empty"=C_Empty:=by unfold clsAt;rw[mg_of X G n_Empty]
 have T:Txt K mg:={
  b_all:=mg_none_of X G b_all
  b_bool:=mg_none_of X G b_bool
  b_enumerate:=mg_none_of X G b_enumerate
  b_int:=mg_none_of X G b_int
  b_isinstance:=mg_none_of X G b_isinstance
  b_len:=mg_none_of X G b_len
  b_list:=mg_none_of X G b_list
  b_max:=mg_none_of X G b_max
  b_min:=mg_none_of X G b_min
  b_range:=mg_none_of X G b_range
  b_tuple:=mg_none_of X G b_tuple
  c_DipError:=by rw[q_DipError];exact mg_of X G n_DipError
  x_DipError:=by rw[q_DipError];exact x_DipError
  c_Empty:=by rw[q_Empty];exact mg_of X G n_Empty
  x_Empty:=by rw[q_Empty];exact x_Empty
 }
 subst ZbH
 have ZS:=Zlz (mg_of X G ZaY) ZaZ rfl ZbI ZbJ
 have ZgA:LamD K mg "longest_twice" Zca:=⟨ZaI,ZS.2,by rw[ZS.1];exact ZaK⟩
 subst Zcc
 have Z2:=Zlz (mg_of X G Zbp) Zbq rfl Zcd Zce
 have Zhr:LamD K mg "longest_both" ZcL:=⟨Za1,Z2.2,by rw[Z2.1];exact Za3⟩
 have Zbv:=ZpG (st:=Zac) ZcG ZcH Zaz
 have Zhs:=Zbv.binds (ps:=["row","fewest"]) (ds:=[]) Zbn λ_ _ _ _ _ _ us hl=>by obtain⟨x0,u0,rfl,h0⟩:=le1 (show us.length=2 by simpa using hl);obtain⟨x1,u1,rfl,h1⟩:=le1 h0;obtain rfl:=le0 h1;exact⟨_,rfl,rfl⟩
 have ZgB:=Zbv.binds (ps:=["row","fewest"]) (ds:=[.int 1 ZdN]) Zbn λ_ _ _ _ _ _ us hl=>by obtain⟨x0,u0,rfl,h0⟩:=le1 (show us.length=1 from Nat.succ.inj (Yy.symm.trans hl));obtain rfl:=le0 h0;exact⟨_,rfl,rfl⟩
 have Zj1:=ZI (st:=s_settle) Zhh Zhi Zfu
 have ZoY:=Zj1.binds (ps:=["elders","spine","place","keep"]) λ_ _ _ _ _ _ us hl=>by obtain⟨x0,u0,rfl,h0⟩:=le1 hl;obtain⟨x1,u1,rfl,h1⟩:=le1 h0;obtain⟨x2,u2,rfl,h2⟩:=le1 h1;obtain⟨x3,u3,rfl,h3⟩:=le1 h2;obtain rfl:=le0 h3;exact rfl
 have Zim:=ZI (st:=s_tree_of) ZfW ZfX ZeG
 have Zm4:=Zim.binds (ps:=["row"]) λ_ _ _ _ _ _ us hl=>by obtain⟨x0,u0,rfl,h0⟩:=le1 hl;obtain rfl:=le0 h0;exact rfl
 have Zj2:=ZI (st:=s_way_up) Zhk Zhl Zfv
 have ZoZ:=Zj2.binds (ps:=["tree","place"]) λ_ _ _ _ _ _ us hl=>by obtain⟨x0,u0,rfl,h0⟩:=le1 hl;obtain⟨x1,u1,rfl,h1⟩:=le1 h0;obtain rfl:=le0 h1;exact rfl
 have Zgk:=ZI (st:=s_fences_of) Zek Zel ZcS
 have Zj3:=Zgk.binds (ps:=["tree"]) λ_ _ _ _ _ _ us hl=>by obtain⟨x0,u0,rfl,h0⟩:=le1 hl;obtain rfl:=le0 h0;exact rfl
 have ZdT:=ZI (st:=ZW) Zb5 Zb6 ZaW
 have ZgC:=ZdT.binds (ps:=["tree"]) λ_ _ _ _ _ _ us hl=>by obtain⟨x0,u0,rfl,h0⟩:=le1 hl;obtain rfl:=le0 h0;exact rfl
 have ZdU:=ZI (st:=ZX) Zb8 Zb9 ZaX
 have ZgD:=ZdU.binds (ps:=["row"]) λ_ _ _ _ _ _ us hl=>by obtain⟨x0,u0,rfl,h0⟩:=le1 hl;obtain rfl:=le0 h0;exact rfl
 have ZeP:=ZI (st:=Zaq) Zdb Zdc ZbN
 have ZhN:=ZeP.binds (ps:=["distance","size"]) λ_ _ _ _ _ _ us hl=>by obtain⟨x0,u0,rfl,h0⟩:=le1 hl;obtain⟨x1,u1,rfl,h1⟩:=le1 h0;obtain rfl:=le0 h1;exact rfl
 have Zez:=ZI (st:=Zad) ZcJ ZcK Zbo
 have Zht:=Zez.binds (ps:=["told","size"]) λ_ _ _ _ _ _ us hl=>by obtain⟨x0,u0,rfl,h0⟩:=le1 hl;obtain⟨x1,u1,rfl,h1⟩:=le1 h0;obtain rfl:=le0 h1;exact rfl
 have Zgl:=ZI (st:=Zbf) Zeo Zep ZcT
 have Zj4:=Zgl.binds (ps:=["told","size"]) λ_ _ _ _ _ _ us hl=>by obtain⟨x0,u0,rfl,h0⟩:=le1 hl;obtain⟨x1,u1,rfl,h1⟩:=le1 h0;obtain rfl:=le0 h1;exact rfl
 have Zhu:=ZI (st:=ZbA) Ze8 Ze9 ZdB
 have Zk3:=Zhu.binds (ps:=["told","size"]) λ_ _ _ _ _ _ us hl=>by obtain⟨x0,u0,rfl,h0⟩:=le1 hl;obtain⟨x1,u1,rfl,h1⟩:=le1 h0;obtain rfl:=le0 h1;exact rfl
 have Zin:=ZI (st:=Zcw) Zf1 Zf2 ZeH
 have Zm5:=Zin.binds (ps:=["ones","others","size"]) λ_ _ _ _ _ _ us hl=>by obtain⟨x0,u0,rfl,h0⟩:=le1 hl;obtain⟨x1,u1,rfl,h1⟩:=le1 h0;obtain⟨x2,u2,rfl,h2⟩:=le1 h1;obtain rfl:=le0 h2;exact rfl
 have Zio:=ZI (st:=Zcx) Zf4 Zf5 ZeI
 have Zm6:=Zio.binds (ps:=["most","pair_at"]) λ_ _ _ _ _ _ us hl=>by obtain⟨x0,u0,rfl,h0⟩:=le1 hl;obtain⟨x1,u1,rfl,h1⟩:=le1 h0;obtain rfl:=le0 h1;exact rfl
 have ZdV:=ZI (st:=ZY) ZaZ Zcb Za0
 have ZgE:=ZdV.binds (ps:=["row"]) λ_ _ _ _ _ _ us hl=>by obtain⟨x0,u0,rfl,h0⟩:=le1 hl;obtain rfl:=le0 h0;exact rfl
 have ZeA:=ZI (st:=Zae) Zbq ZcM Zbr
 have Zhv:=ZeA.binds (ps:=["one","other"]) λ_ _ _ _ _ _ us hl=>by obtain⟨x0,u0,rfl,h0⟩:=le1 hl;obtain⟨x1,u1,rfl,h1⟩:=le1 h0;obtain rfl:=le0 h1;exact rfl
 have Zgm:=ZI (st:=Zbg) Zer Zes ZcU
 have Zj5:=Zgm.binds (ps:=["script","k"]) λ_ _ _ _ _ _ us hl=>by obtain⟨x0,u0,rfl,h0⟩:=le1 hl;obtain⟨x1,u1,rfl,h1⟩:=le1 h0;obtain rfl:=le0 h1;exact rfl
 have Zgn:=ZI (st:=Zbh) Zeu Zev ZcV
 have Zj6:=Zgn.binds (ps:=["pot","many"]) λ_ _ _ _ _ _ us hl=>by obtain⟨x0,u0,rfl,h0⟩:=le1 hl;obtain⟨x1,u1,rfl,h1⟩:=le1 h0;obtain rfl:=le0 h1;exact rfl
 have Zfz:=ZI (st:=ZaC) ZdD ZdE Zcs
 have Zi8:=Zfz.binds (ps:=["thing"]) λ_ _ _ _ _ _ us hl=>by obtain⟨x0,u0,rfl,h0⟩:=le1 hl;obtain rfl:=le0 h0;exact rfl
 have Zhw:=ZI (st:=ZbB) Zfb Zfc ZdF
 have Zk4:=Zhw.binds (ps:=["pot","most"]) λ_ _ _ _ _ _ us hl=>by obtain⟨x0,u0,rfl,h0⟩:=le1 hl;obtain⟨x1,u1,rfl,h1⟩:=le1 h0;obtain rfl:=le0 h1;exact rfl
 have ZfA:=ZI (st:=ZaD) ZdH ZdI Zct
 have Zi9:=ZfA.binds (ps:=["row","place"]) λ_ _ _ _ _ _ us hl=>by obtain⟨x0,u0,rfl,h0⟩:=le1 hl;obtain⟨x1,u1,rfl,h1⟩:=le1 h0;obtain rfl:=le0 h1;exact rfl
 have Zgo:=ZI (st:=s__law_tree) Zex Zey ZcW
 have Zj7:=Zgo.binds (ps:=["row"]) λ_ _ _ _ _ _ us hl=>by obtain⟨x0,u0,rfl,h0⟩:=le1 hl;obtain rfl:=le0 h0;exact rfl
 have ZeQ:=ZI (st:=Zar) Zde Zdf ZbO
 have ZhO:=ZeQ.binds (ps:=["pot","some"]) λ_ _ _ _ _ _ us hl=>by obtain⟨x0,u0,rfl,h0⟩:=le1 hl;obtain⟨x1,u1,rfl,h1⟩:=le1 h0;obtain rfl:=le0 h1;exact rfl
 have ZdW:=ZI (st:=ZZ) Zci Zcj Za4
 have ZgF:=ZdW.binds (ps:=["pot"]) λ_ _ _ _ _ _ us hl=>by obtain⟨x0,u0,rfl,h0⟩:=le1 hl;obtain rfl:=le0 h0;exact rfl
 have ZfB:=ZI (st:=ZaE) ZdK ZdL Zcu
 have Zja:=ZfB.binds (ps:=["row","size"]) λ_ _ _ _ _ _ us hl=>by obtain⟨x0,u0,rfl,h0⟩:=le1 hl;obtain⟨x1,u1,rfl,h1⟩:=le1 h0;obtain rfl:=le0 h1;exact rfl
 have ZcO:=ZI (st:=ZL) Zbc Zbd Zak
 have Zfe:=ZcO.binds (ps:=["row","size"]) λ_ _ _ _ _ _ us hl=>by obtain⟨x0,u0,rfl,h0⟩:=le1 hl;obtain⟨x1,u1,rfl,h1⟩:=le1 h0;obtain rfl:=le0 h1;exact rfl
 have ZcY:=ZI (st:=ZM) Zbt Zbu Zaw
 have ZfC:=ZcY.binds (ps:=["row","second","size"]) λ_ _ _ _ _ _ us hl=>by obtain⟨x0,u0,rfl,h0⟩:=le1 hl;obtain⟨x1,u1,rfl,h1⟩:=le1 h0;obtain⟨x2,u2,rfl,h2⟩:=le1 h1;obtain rfl:=le0 h2;exact rfl
 have ZdX:=ZI (st:=Z0) Zcl Zcm Za5
 have ZgG:=ZdX.binds (ps:=["told"]) λ_ _ _ _ _ _ us hl=>by obtain⟨x0,u0,rfl,h0⟩:=le1 hl;obtain rfl:=le0 h0;exact rfl
 have ZeR:=ZI (st:=Zas) Zdh Zdi ZbP
 have ZhP:=ZeR.binds (ps:=["pot","row"]) λ_ _ _ _ _ _ us hl=>by obtain⟨x0,u0,rfl,h0⟩:=le1 hl;obtain⟨x1,u1,rfl,h1⟩:=le1 h0;obtain rfl:=le0 h1;exact rfl
 have Zru:=ZI (st:=s_law) ZoU ZoW ZoX
 refine⟨fnOf "law" "law" (defArgs s_law) (defBody s_law) (defScope s_law) .none Zq9 Zra Zrb Zrc ZoV Zrd,λs v=>.of_eq rfl,?tb,?nd,λbase _ _ B=>?_⟩
 case tb =>
  intro p hp
  unfold tabsL at hp
  simp only[Yk,List.not_mem_nil,or_false]at hp
  rcases hp with rfl|rfl
  ·exact⟨by rw[ZS.1];exact ZbL,by rw[ZS.1];exact ZbK,ZaI,by rw[ZS.1];exact ZaK⟩
  ·exact⟨by rw[Z2.1];exact Zcg,by rw[Z2.1];exact Zcf,Za1,by rw[Z2.1];exact Za3⟩
 case nd =>
  unfold tabsL
  simp only[YC,List.map_nil]
  rw[ZS.1,Z2.1]
  exact nd
 have ZcF:Callee l.prog w K mg base "need_numbers" 1 ["row","fewest"] (Zao K mg):=⟨_,_,mg_of X G Zbm,Zaz,Zhs,ZdM Zbv T⟩
 have ZaT:ZiR l.prog w K mg base "need_numbers" 1 ["row","fewest"] [V.int 1] (Zao K mg):=⟨_,_,_,mg_of X G Zbm,Zaz,ZgB,.cons ⟨_,rfl⟩ .nil,ZdM Zbv T⟩
 have Zhd:Callee l.prog w K mg base "settle" 1 ["elders","spine","place","keep"] (sp_settle K mg):=⟨_,_,mg_of X G Zhg,Zfu,ZoY,ok_settle Zj1 T⟩
 have ZfT:Callee l.prog w K mg base "tree_of" 2 ["row"] (sp_tree_of K mg):=⟨_,_,mg_of X G ZfV,ZeG,Zm4,ok_tree_of Zim Zhd T⟩
 have Zhe:Callee l.prog w K mg base "way_up" 1 ["tree","place"] (sp_way_up K mg):=⟨_,_,mg_of X G Zhj,Zfv,ZoZ,ok_way_up Zj2 T⟩
 have Zee:Callee l.prog w K mg base "fences_of" 2 ["tree"] (sp_fences_of K mg):=⟨_,_,mg_of X G Zej,ZcS,Zj3,ok_fences_of Zgk Zhe T⟩
 have Zb3:Callee l.prog w K mg base "distance_list" 3 ["tree"] (ZbC K mg):=⟨_,_,mg_of X G Zb4,ZaW,ZgC,ZfO ZdT Zee T⟩
 have ZN:Callee l.prog w K mg base "row_distances" 4 ["row"] (ZaG K mg):=⟨_,_,mg_of X G Zb7,ZaX,ZgD,ZfP ZdU ZfT Zb3 T⟩
 have Zc8:Callee l.prog w K mg base "seen_within" 1 ["distance","size"] (ZcC K mg):=⟨_,_,mg_of X G Zda,ZbN,ZhN,Zg7 ZeP T⟩
 have ZT:Callee l.prog w K mg base "stretch_keys" 2 ["told","size"] (ZaS K mg):=⟨_,_,mg_of X G ZcI,Zbo,Zht,Zgu Zez Zc8 T⟩
 have Zeg:Callee l.prog w K mg base "groups_by" 3 ["told","size"] (Zdw K mg):=⟨_,_,mg_of X G Zen,ZcT,Zj4,Zi0 Zgl ZT T⟩
 have Ze6:Callee l.prog w K mg base "twice_at" 4 ["told","size"] (Zed K mg):=⟨_,_,mg_of X G Ze7,ZdB,Zk3,ZjW Zhu Zeg T⟩
 have Zcy:Callee l.prog w K mg base "longest" 8 ["most","pair_at"] (Zdx l.prog w K mg base):=⟨_,_,mg_of X G Zf3,ZeI,Zm6,ZkR Zio T⟩
 have ZaU:Callee l.prog w K mg base "longest_twice" 9 ["row"] (ZbD K mg):=⟨_,_,mg_of X G ZaY,Za0,ZgE,ZfR ZdV ZcF ZN Ze6 Zcy ZgA B T⟩
 have ZfU:Callee l.prog w K mg base "both_at" 3 ["ones","others","size"] (Ze4 K mg):=⟨_,_,mg_of X G Zf0,ZeH,Zm5,ZkQ Zin ZT T⟩
 have Zbl:Callee l.prog w K mg base "longest_both" 9 ["one","other"] (Zb0 K mg):=⟨_,_,mg_of X G Zbp,Zbr,Zhv,Zgv ZeA ZaT ZN ZfU Zcy Zhr B T⟩
 have Zeh:Callee l.prog w K mg base "_law_deal" 1 ["script","k"] (Zdv K mg):=⟨_,_,mg_of X G Zeq,ZcU,Zj5,ZiY Zgm T⟩
 have Zq:Callee l.prog w K mg base "_law_take" 1 ["pot","many"] (ZaF K mg):=⟨_,_,mg_of X G Zet,ZcV,Zj6,ZiZ Zgn T⟩
 have ZaP:Callee l.prog w K mg base "_law_either" 2 ["pot","some"] (ZcD K mg):=⟨_,_,mg_of X G Zdd,ZbO,ZhO,Zg8 ZeQ Zq T⟩
 have Zdz:Callee l.prog w K mg base "_law_row" 2 ["pot","most"] (sp__law_row K mg):=⟨_,_,mg_of X G Zfa,ZdF,Zk4,ZjR Zhw Zq T⟩
 have Z1:Callee l.prog w K mg base "_law_wide_row" 3 ["pot"] (ZaH K mg):=⟨_,_,mg_of X G Zch,Za4,ZgF,ZfQ ZdW Zq Zdz T⟩
 have Zdy:Callee l.prog w K mg base "_law_elder" 1 ["row","place"] (Zc5 K mg):=⟨_,_,mg_of X G ZdG,Zct,Zi9,ZhI ZfA T⟩
 have Zef:Callee l.prog w K mg base "_law_tree" 2 ["row"] (sp__law_tree K mg):=⟨_,_,mg_of X G Zew,ZcW,Zj7,ok__law_tree Zgo Zdy T⟩
 have Zai:Callee l.prog w K mg base "_law_trees" 3 ["row","size"] (ZbM K mg):=⟨_,_,mg_of X G ZdJ,Zcu,Zja,ZhJ ZfB Zef T⟩
 have Zaj:Callee l.prog w K mg base "_law_first_twice" 4 ["row","size"] (ZaN K mg):=⟨_,_,mg_of X G Zbb,Zak,Zfe,ZeJ ZcO Zai T⟩
 have Zav:Callee l.prog w K mg base "_law_first_both" 4 ["row","second","size"] (Za9 K mg):=⟨_,_,mg_of X G Zbs,Zaw,ZfC,Ze5 ZcY Zai T⟩
 have ZdA:Callee l.prog w K mg base "_law_whole" 1 ["thing"] (Zc4 K mg):=⟨_,_,mg_of X G ZdC,Zcs,Zi8,ZhH Zfz T⟩
 have ZaV:Callee l.prog w K mg base "_law_is_three" 2 ["told"] (ZbE K mg):=⟨_,_,mg_of X G Zck,Za5,ZgG,ZfS ZdX ZdA T⟩
 have Zc9:Callee l.prog w K mg base "_law_second" 4 ["pot","row"] (ZcE K mg):=⟨_,_,mg_of X G Zdg,ZbP,ZhP,Zhc ZeR Zq Z1 T⟩
 exact ok_law Zru ZaU Zbl Zeh ZaP Z1 Zaj Zav ZaV Zc9 T
theorem walk {l:PySem.W.OpenLaw}{q:Program}{loose:List Str}{XP:(Str->Option Value)->Heap->Prop}{YP:World->Heap->Prop}{d:DefRec}{K:Params->PySem.W.Frag}{ts:List Addr} (hn:l.most=some 63) (hdf:d.params.defaults=[])
  (hY:∀(w:World) (h:Heap),YP w h->(K w.params).In h) (hY2:∀(w:World) (h:Heap),YP w h->∀P∈ts,h.get? P=some (PySem.W.tabObj #[]))
  (F:∀(w:World) (mg:Str->Option Value) (fa:Addr) (h:Heap),(K w.params).In h->h.Ns mainGlobals mg->mg d.name=some (.ref fa) ->
   ∃fd:FuncData,(∀(s:Shared) (u:Value),BindsTo s fd ⟨[u],[]⟩ [("script",u)])/\(∀p∈tabsL (K w.params) mg,p.1∈ts/\(K w.params).lookup p.1=none/\∃c,PySem.W.codeHdIn (K w.params) c p.1=true)/\((tabsL (K w.params) mg).map (·.1)).Nodup/\∀base:Heap,(K w.params).In base->base.Ns mainGlobals mg->BM mg base->FnOk l.prog w (K w.params) mg base (CXE l.prog w) 10 fa fd ["script"] (spLaw (K w.params) mg)) :
  PySem.W.WalkO q loose XP YP l.row.toRowW d [] (λf vs=>PySem.call f vs) :=
 L2.Zok (n:=63) (k:=10) (x:="script") (ts:=ts) (tabs:=tabsL) (CX:=λw=>CXE l.prog w) (sp:=λw mg=>spLaw (K w.params) mg) hn (by decide) hdf ⟨rfl,by decide,by decide⟩ hY hY2 F (λ_ _ _ a ns hl hS hT=>⟨a,ns,rfl,hS,hl,hT,λ_=>rfl⟩) λ_ _ _ _ _ ⟨_,_,_,_,_,_,_,z⟩=>z
end K47
open PySem PySem.W PyProof.Rows
set_option maxRecDepth 100000 in
set_option maxHeartbeats 0 in
theorem PySem.Challenge.cw_dipkin_k47_the_longest_told_holds : PySem.Challenge.rw_dipkin_k47_the_longest_told.Holds := by
 w_on;o_law;k_head;(case hw=>w_witness2)
 k_fill
 refine K47.walk (l:=PySem.Challenge.rw_dipkin_k47_the_longest_told) rfl rfl (λw h Y=>PySem.W.km_in_of Y) (λw h Y=>PySem.W.km_tabs_of Y) ?F
 case F =>
  intro w mg fa h KX G hmg
  refine' K47.all_mk KX G hmg ?Zbm ?ZcG ?ZcH ?Zaz ?Zbn ?Zhg ?Zhh ?Zhi ?Zfu ?ZfV ?ZfW ?ZfX ?ZeG ?Zhj ?Zhk ?Zhl ?Zfv ?Zej ?Zek ?Zel ?ZcS ?Zb4 ?Zb5 ?Zb6 ?ZaW ?Zb7 ?Zb8 ?Zb9 ?ZaX ?Zda ?Zdb ?Zdc ?ZbN ?ZcI ?ZcJ ?ZcK ?Zbo ?Zen ?Zeo ?Zep ?ZcT ?Ze7 ?Ze8 ?Ze9 ?ZdB ?Zf0 ?Zf1 ?Zf2 ?ZeH ?Zf3 ?Zf4 ?Zf5 ?ZeI ?ZaY ?ZaZ ?Zcb ?Za0 ?ZbH ?ZbI ?ZbJ ?ZaK ?ZbK ?ZbL ?Zbp ?Zbq ?ZcM ?Zbr ?Zcc ?Zcd ?Zce ?Za3 ?Zcf ?Zcg ?Zeq ?Zer ?Zes ?ZcU ?Zet ?Zeu ?Zev ?ZcV ?ZdC ?ZdD ?ZdE ?Zcs ?Zfa ?Zfb ?Zfc ?ZdF ?ZdG ?ZdH ?ZdI ?Zct ?Zew ?Zex ?Zey ?ZcW ?Zdd ?Zde ?Zdf ?ZbO ?Zch ?Zci ?Zcj ?Za4 ?ZdJ ?ZdK ?ZdL ?Zcu ?Zbb ?Zbc ?Zbd ?Zak ?Zbs ?Zbt ?Zbu ?Zaw ?Zck ?Zcl ?Zcm ?Za5 ?Zdg ?Zdh ?Zdi ?ZbP ?ZoT ?ZoU ?ZoW ?ZoX ?n_DipError ?x_DipError ?d_DipError ?y_DipError ?n_Empty ?x_Empty ?d_Empty ?y_Empty ?b_all ?b_bool ?b_enumerate ?b_int ?b_isinstance ?b_len ?b_list ?b_max ?b_min ?b_range ?b_tuple ?nd
  (case Zbm|ZcG|ZcH|Zaz|Zbn|Zhg|Zhh|Zhi|Zfu|ZfV|ZfW|ZfX|ZeG|Zhj|Zhk|Zhl|Zfv|Zej|Zek|Zel|ZcS|Zb4|Zb5|Zb6|ZaW|Zb7|Zb8|Zb9|ZaX|Zda|Zdb|Zdc|ZbN|ZcI|ZcJ|ZcK|Zbo|Zen|Zeo|Zep|ZcT|Ze7|Ze8|Ze9|ZdB|Zf0|Zf1|Zf2|ZeH|Zf3|Zf4|Zf5|ZeI|ZaY|ZaZ|Zcb|Za0=>k_is)
  (case ZbH=>exact rfl)
  (case ZbI=>k_is)
  (case ZbJ=>exact rfl)
  (case ZaK=>kernel_rfl)
  (case ZbK=>kernel_rfl)
  (case ZbL=>decide)
  (case Zbp|Zbq|ZcM|Zbr=>k_is)
  (case Zcc=>exact rfl)
  (case Zcd=>k_is)
  (case Zce=>exact rfl)
  (case Za3=>kernel_rfl)
  (case Zcf=>kernel_rfl)
  (case Zcg=>decide)
  (case Zeq|Zer|Zes|ZcU|Zet|Zeu|Zev|ZcV|ZdC|ZdD|ZdE|Zcs|Zfa|Zfb|Zfc|ZdF|ZdG|ZdH|ZdI|Zct|Zew|Zex|Zey|ZcW|Zdd|Zde|Zdf|ZbO|Zch|Zci|Zcj|Za4|ZdJ|ZdK|ZdL|Zcu|Zbb|Zbc|Zbd|Zak|Zbs|Zbt|Zbu|Zaw|Zck|Zcl|Zcm|Za5|Zdg|Zdh|Zdi|ZbP|ZoT|ZoU|ZoW|ZoX|n_DipError=>k_is)
  (case x_DipError=>k_exc)
  (case d_DipError|y_DipError|n_Empty=>k_is)
  (case x_Empty=>k_exc)
  (case d_Empty|y_Empty|b_all|b_bool|b_enumerate|b_int|b_isinstance|b_len|b_list|b_max|b_min|b_range|b_tuple=>k_is)
  (case nd=>decide)
