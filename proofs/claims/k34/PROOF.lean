import PyProof.Rows.All
import Wide.All
import OpenK.AllK
import Wide.FinOn
import Lean
import PyProof.EqAt
import PyProof.EqKinds
import PyProof.TupleCall
import PyProof.MeetsSeq
import PyProof.NeKinds
import PyProof.TupleOfSeq
import PyProof.ListRange
import PyProof.TupleOfGen
import PyProof.ZipIter
import KE.KRevIter
import PyProof.StrWalks
import PyProof.StrBlock2
import PyProof.MeetsStr
import PyProof.StrCalls2
import PyProof.StrLawsIn
import KE.KIntText
import PyProof.StrLawsTight
import PyProof.StrLawsChain
import PyProof.StrLawsAffix
import PyProof.Rows.StrItems
import PyProof.Rows.ReprOcc
import KE.KDictSum
import PyProof.Rows.SeqMore
import KE.KDictList
import KE.KStateDown
import PyProof.StrBlockI
import PyProof.FactsAll.NoneType_1
import PyProof.FString2
import PySem.Challenge.RW_dipkin_k34_fills_refused
set_option Elab.async false
set_option linter.all false
set_option maxRecDepth 100000
set_option maxHeartbeats 4000000
set_option genSizeOfSpec false
local macro_rules | `(tactic| omega) => `(tactic| first | lia | omega (config := {}))
section
open PySem PySem.Spec PyProof.Rows
noncomputable abbrev Ya:=@wpAny_bind
noncomputable abbrev Yb:=@if_neg
noncomputable abbrev Yc:=@if_pos
noncomputable abbrev Yd:=@Nat.le_refl
noncomputable abbrev Ye:=@wpAny_pure
noncomputable abbrev Yf:=@Nat.le_trans
noncomputable abbrev Yg:=@Heap.get?_push_of_some
noncomputable abbrev Yh:=@List.length_map
noncomputable abbrev Yi:=@List.getElem?_eq_getElem
noncomputable abbrev Yj:=@Heap.lt_size
noncomputable abbrev Yk:=@Nat.ne_of_lt
noncomputable abbrev Yl:=@List.mem_cons
noncomputable abbrev Ym:=@Heap.get?_push_size
noncomputable abbrev Yn:=@Nat.zero_le
noncomputable abbrev Yo:=@List.size_toArray
noncomputable abbrev Yp:=@List.getElem?_eq_some_iff
noncomputable abbrev Yq:=@List.length_cons
noncomputable abbrev Yr:=@List.getD_eq_getElem?_getD
noncomputable abbrev Ys:=@Nat.lt_of_lt_of_le
noncomputable abbrev Yt:=@PySem.boot_len
noncomputable abbrev Yu:=@Nat.lt_of_le_of_lt
noncomputable abbrev Yv:=@List.mem_append_right
noncomputable abbrev Yw:=@Bool.false_ne_true
noncomputable abbrev Yy:=@Option.some.inj
noncomputable abbrev Yz:=@List.mem_range
noncomputable abbrev YA:=@Nat.lt_irrefl
noncomputable abbrev YB:=@wpAny_mono
noncomputable abbrev YC:=@List.getElem?_map
noncomputable abbrev YD:=@List.length_append
noncomputable abbrev YE:=@List.mem_append
noncomputable abbrev YF:=@List.map_cons
noncomputable abbrev YG:=@Nat.lt_succ_of_lt
noncomputable abbrev YH:=@List.mem_map
noncomputable abbrev YI:=@Nat.le_of_lt
noncomputable abbrev YJ:=@decide_eq_false
noncomputable abbrev YK:=@List.mem_cons_of_mem
noncomputable abbrev YL:=@decide_eq_true
noncomputable abbrev YM:=@Array.length_toList
noncomputable abbrev YN:=@List.mem_append_left
noncomputable abbrev YO:=@List.mem_cons_self
noncomputable abbrev YQ:=@List.range_succ
noncomputable abbrev YR:=@Int.eq_ofNat_of_zero_le
noncomputable abbrev YS:=@List.mem_filter
noncomputable abbrev YT:=@Nat.le_succ
noncomputable abbrev YU:=@List.getElem?_append_left
noncomputable abbrev YV:=@List.map_append
noncomputable abbrev YW:=@List.length_take
noncomputable abbrev YX:=@List.append_assoc
noncomputable abbrev YY:=@List.getElem_mem
noncomputable abbrev YZ:=@List.length_range
noncomputable abbrev Y1:=@List.map_map
noncomputable abbrev Y2:=@List.getElem?_append_right
noncomputable abbrev Y3:=@Nat.le_of_eq
noncomputable abbrev Y4:=@List.getElem_of_mem
noncomputable abbrev Y5:=@Int.toNat_natCast
noncomputable abbrev Y6:=@List.take_add_one
noncomputable abbrev Y7:=@List.length_drop
noncomputable abbrev Y8:=@List.pairwise_cons
noncomputable abbrev Y9:=@List.length_filter_le
noncomputable abbrev Ja:=@of_decide_eq_true
noncomputable abbrev Jb:=@List.getElem_append_left
noncomputable abbrev Jc:=@List.getElem_append_right
end
namespace L2
open PySem PySem.Spec PyProof.Rows
noncomputable abbrev Key:=Sum Int Str
noncomputable def Zjr:Key->Value->Bool
 |.inl k,v=>Value.isInt k v
 |.inr x,v=>Value.isStrOf x v
noncomputable def keyH (w:World):Key->Int
 |.inl k=>hashInt k
 |.inr x=>hashStr w x
theorem Zac:∀{k:Key}{v:Value},Zjr k v=true->(∃i t,k=Sum.inl i/\v=Value.int i t)\/(∃x t,k=Sum.inr x/\v=Value.str x t)
 |.inl i,v,h=>by
  obtain⟨t,e⟩:=Value.isInt_shape (k:=i) (v:=v) h
  exact .inl ⟨i,t,rfl,e⟩
 |.inr x,v,h=>by
  obtain⟨t,e⟩:=Value.isStrOf_shape (x:=x) (v:=v) h
  exact .inr ⟨x,t,rfl,e⟩
theorem Zm4 (i:Int) (t:Tok):Zjr (.inl i) (.int i t)=true:=by simp[Zjr,Value.isInt]
theorem Zm5 (x:Str) (t:Tok):Zjr (.inr x) (.str x t)=true:=by simp[Zjr,Value.isStrOf]
theorem key_ll (a b:Int):decide ((Sum.inl a:Key)=Sum.inl b)=(a==b):=by
 by_cases e:a=b
 ·subst e;simp
 ·have h:¬ (Sum.inl a:Key)=Sum.inl b:=λq=>e (Sum.inl.inj q)
  rw[YJ h]
  exact(beq_eq_false_iff_ne.mpr e).symm
theorem key_rr (a b:Str):decide ((Sum.inr a:Key)=Sum.inr b)=decide (a=b):=by
 by_cases e:a=b
 ·subst e;simp
 ·have h:¬ (Sum.inr a:Key)=Sum.inr b:=λq=>e (Sum.inr.inj q)
  rw[YJ h,YJ e]
theorem key_lr (a:Int) (b:Str):decide ((Sum.inl a:Key)=Sum.inr b)=false:=YJ (λq=>nomatch q)
theorem key_rl (a:Str) (b:Int):decide ((Sum.inr a:Key)=Sum.inl b)=false:=YJ (λq=>nomatch q)
noncomputable def ZaE (prog:Program) (w:World):PySem.KeyKind prog w Key where
 is:=Zjr
 hash:=keyH w
 inj:=λv a b ha hb=>by
  rcases Zac ha with⟨i,t,rfl,rfl⟩|⟨x,t,rfl,rfl⟩
  ·rcases Zac hb with⟨j,u,rfl,e⟩|⟨y,u,rfl,e⟩
   ·injection e with e1 _;rw[e1]
   ·exact nomatch e
  ·rcases Zac hb with⟨j,u,rfl,e⟩|⟨y,u,rfl,e⟩
   ·exact nomatch e
   ·injection e with e1 _;rw[e1]
 byValue:=λk v h=>by
  rcases Zac h with⟨i,t,rfl,rfl⟩|⟨x,t,rfl,rfl⟩<;>rfl
 pyHash:=λhv h=>by
  rcases Zac hv with⟨i,t,rfl,rfl⟩|⟨x,t,rfl,rfl⟩
  ·exact wpAny_pyHash_int h
  ·exact wpAny_pyHash_str h
 eqBool:=λhu hv h=>by
  rcases Zac hu with⟨i,t,rfl,rfl⟩|⟨x,t,rfl,rfl⟩
  ·rcases Zac hv with⟨j,u,rfl,rfl⟩|⟨y,u,rfl,rfl⟩
   ·rw[key_ll]at h;exact wpAny_eqBool_int h
   ·rw[key_lr]at h;exact SeqAt.EqAt.int_str i t y u _ _ _ _ h
  ·rcases Zac hv with⟨j,u,rfl,rfl⟩|⟨y,u,rfl,rfl⟩
   ·rw[key_rl]at h;exact SeqAt.EqAt.str_int x t j u _ _ _ _ h
   ·rw[key_rr]at h;exact wpAny_eqBool_str h
 «strs»:=λk x t v h=>by
  rcases Zac h with⟨i,u,rfl,e⟩|⟨y,u,rfl,e⟩
  ·exact nomatch e
  ·injection e with e1 _
   subst e1
   cases v<;>rfl
theorem ZkP (prog:Program) (w:World) (i:Int) (t:Tok):(ZaE prog w).is (.inl i) (.int i t)=true:=Zm4 i t
theorem ZkQ (prog:Program) (w:World) (x:Str) (t:Tok):(ZaE prog w).is (.inr x) (.str x t)=true:=Zm5 x t
inductive V where
 |non|bl (b:Bool)|int (i:Int)|str (x:Str)|byt (b:Array UInt8)|flt (b:UInt64)|ref (a:Addr)|ty (n:String)
 deriving DecidableEq
noncomputable def RelV:V->Value->Prop
 |.non,u=>u=Value.none
 |.bl b,u=>u=Value.bool b
 |.int i,u=>∃t,u=Value.int i t
 |.str x,u=>∃t,u=Value.str x t
 |.byt b,u=>∃t,u=Value.bytes b t
 |.flt b,u=>∃t,u=Value.float b t
 |.ref a,u=>u=Value.ref a
 |.ty n,u=>u=Value.type n
noncomputable abbrev Vals:List V->List Value->Prop:=Paired RelV
theorem Vals.length {xs:List V}{us:List Value} (r:Vals xs us):xs.length=us.length:=Paired.length r
theorem Vals.get:∀{xs:List V}{us:List Value}{i:Nat}{x:V},Vals xs us->xs[i]?=some x->∃u,us[i]?=some u/\RelV x u
 |_,_,_,_,.nil,e=>by simp at e
 |_,_,0,_,.cons r _,e=>by simp at e;subst e;exact⟨_,rfl,r⟩
 |_,_,i+1,x,.cons _ t,e=>by
  obtain⟨u,h1,h2⟩:=Vals.get (i:=i) (x:=x) t (by simpa using e)
  exact⟨u,by simpa using h1,h2⟩
theorem Vals.set {x:V}{u:Value} (r:RelV x u):∀{xs:List V}{us:List Value} (i:Nat),Vals xs us->Vals (xs.set i x) (us.set i u)
 |_,_,_,.nil=>.nil
 |_,_,0,.cons _ t=>.cons r t
 |_,_,i+1,.cons q t=>.cons q (Vals.set r i t)
theorem Vals.append:∀{xs ys:List V}{us ws:List Value},Vals xs us->Vals ys ws->Vals (xs++ys) (us++ws)
 |_,_,_,_,.nil,s=>s
 |_,_,_,_,.cons r t,s=>.cons r (Vals.append t s)
theorem Vals.take:∀{xs:List V}{us:List Value} (n:Nat),Vals xs us->Vals (xs.take n) (us.take n)
 |_,_,0,_=>.nil
 |_,_,_+1,.nil=>.nil
 |_,_,n+1,.cons r t=>.cons r (Vals.take n t)
theorem Vals.drop:∀{xs:List V}{us:List Value} (n:Nat),Vals xs us->Vals (xs.drop n) (us.drop n)
 |_,_,0,r=>r
 |_,_,_+1,.nil=>.nil
 |_,_,n+1,.cons _ t=>Vals.drop n t
noncomputable def Zd6:Option V->Option Value->Prop
 |some v,some u=>RelV v u
 |none,none=>True
 |_,_=>False
noncomputable def KV {κ:Type}:List (κ×V)->List (κ×Value)->Prop:=Paired λ(p:κ×V) (q:κ×Value)=>p.1=q.1/\RelV p.2 q.2
noncomputable def kV:Key->V
 |.inl i=>.int i
 |.inr x=>.str x
inductive HO where
 |lst (xs:List V)
 |tup (xs:List V)
 |dK (kvs:List (Key×V))|dT (kvs:List (List Key×V))
 |set (S:Int->Bool) (n:Nat)
 |ins (C dx:Addr) (fs:List (Str×V))
 |own (x:Addr)
 |xd (fs:List (Str×V))
 |met (f x:Addr)
 |rng (lo hi:Int)
 |frz (o:Obj) (u:HO)
 |tbl (ps:Array Value)
 |ext (φ:Heap->Prop)
noncomputable abbrev Hp:=Addr->Option HO
noncomputable def upd (H:Hp) (a:Addr) (o:HO):Hp:=λb=>if b=a then some o else H b
theorem Zc {H:Hp}{a:Addr}{o:HO}:upd H a o a=some o:=by unfold upd;rw[Yc rfl]
theorem Zh {H:Hp}{a b:Addr}{o:HO} (h:b≠a):upd H a o b=H b:=by unfold upd;rw[Yb h]
theorem ne_of {H:Hp}{a b:Addr}{o u:HO} (h:H a=some o) (h':H b=some u) (d:o≠u):a≠b:=by
 intro e;subst e;rw[h]at h';exact d (Yy h')
theorem Zr {H:Hp}{a b:Addr}{o:HO} (h:H a=some o) (h':H b=none):a≠b:=by
 intro e;subst e;rw[h]at h';cases h'
section
variable (P:Program) (w:World)
noncomputable def ZS (H:Hp) (h:Heap) (a:Addr):HO->Prop
 |.lst xs=>xs.length<=sizeLine/\∃(its:List Value) (n:Nat),Vals xs its/\h.get? a=some {cls:=.type "list",data:=.seq its.toArray n}
 |.tup xs=>xs.length<=sizeLine/\∃its:List Value,Vals xs its/\IsTup h a its.toArray
 |.dK kvs=>kvs.length<=sizeLine/\(a==sysModules)=false/\∃vs,KV kvs vs/\h.DictOf (ZaE P w) a vs
 |.dT kvs=>kvs.length<=sizeLine/\(a==sysModules)=false/\∃xs:List (List Key×Addr×Value),
   Paired (λ(p:List Key×V) (q:List Key×Addr×Value)=>p.1=q.1/\H q.2.1=some (.tup (p.1.map kV))/\RelV p.2 q.2.2) kvs xs /\
   ∃o es ep,h.get? a=some o/\o.ExactDict/\o.data=.dict es ep/\es.toList=xs.map (entryOfKey (tupleKind (ZaE P w)))/\(xs.map (·.1)).Nodup
 |.set S n=>h.SetOf (intKind P w) a S n
 |.ins C dx fs=>H dx=some (.own a)/\fs.length<=1000/\dx≠a/\h.get? a=some (PySem.W.instObj C dx) /\
   ∃mA,h.Ns1 dx mA/\(∀f,Zd6 (fs.lookup f) (mA f))/\PySem.Within mA (fs.map (·.1))
 |.own _=>∃o,h.get? a=some o
 |.xd fs=>∃mA,h.Ns1 a mA/\∀f,Zd6 (fs.lookup f) (mA f)
 |.rng lo hi=>∃t u v,h.get? a=some {cls:=.type "range",data:=.fields #[.int lo t,.int hi u,.int 1 v]}
 |.frz o u=>h.get? a=some o/\ZS H h a u
 |.tbl ps=>∃ts:Array Value,h.get? a=some {cls:=.none,data:=.fields ts}/\TriplesOk ts.toList/\∀pos cv,codeAmong pos ts.toList=some cv->∃c oc vs q t t',cv=.ref c/\H c=some (.frz oc (.own a))/\oc.data=.fields vs/\ps[0]?=some (.str q t)/\vs[1]?=some (.str q t')
 |.met f x=>h.get? a=some (PySem.W.methodObj (.ref f) (.ref x))
 |.ext φ=>φ h/\(∃o,h.get? a=some o)/\∀h1 h2:Heap,φ h1->(∀o,h1.get? a=some o->h2.get? a=some o)->φ h2
noncomputable def HOk (H:Hp) (h:Heap):Prop:=∀a o,H a=some o->ZS P w H h a o
end
section
variable {P:Program}{w:World}{H H':Hp}{h h':Heap}{a:Addr}{o:HO}
theorem ZS.lt (x:ZS P w H h a o):a<h.objs.size:=by
 cases o with
 |lst xs=>obtain⟨_,_,_,_,e⟩:=x;exact Yj e
 |tup xs=>obtain⟨_,_,_,p⟩:=x;exact p.lt
 |dK kvs=>obtain⟨_,_,_,_,o,_,_,e,_⟩:=x;exact Yj e
 |dT kvs=>obtain⟨_,_,_,_,o,_,_,e,_⟩:=x;exact Yj e
 |set S n=>obtain⟨o,_,_,_,e,_⟩:=x;exact Yj e
 |ins C dx fs=>obtain⟨_,_,_,e,_⟩:=x;exact Yj e
 |own y=>obtain⟨_,e⟩:=x;exact Yj e
 |xd fs=>obtain⟨_,⟨_,_,_,e,_⟩,_⟩:=x;exact Yj e
 |rng lo hi=>obtain⟨_,_,_,e⟩:=x;exact Yj e
 |frz ob u=>obtain⟨e,_⟩:=x;exact Yj e
 |tbl ps=>obtain⟨_,e,_⟩:=x;exact Yj e
 |met f y=>exact Yj (show h.get? a=some _ from x)
 |ext φ=>obtain⟨_,⟨_,e⟩,_⟩:=x;exact Yj e
theorem Paired.mapP {α β:Type}{F G:α->β->Prop}:∀{l₁:List α}{l₂:List β},Paired F l₁ l₂->(∀a b,F a b->G a b)->Paired G l₁ l₂
 |_,_,.nil,_=>.nil
 |_,_,.cons r t,f=>.cons (f _ _ r) (Paired.mapP t f)
theorem ZS.ZgD (x:ZS P w H h a o) (k:∀b u,(b=a\/H b=some (.own a))->h.get? b=some u->h'.get? b=some u)
  (ho:∀b,H b=some (.own a)->H' b=some (.own a)) (ht:∀b xs,H b=some (.tup xs)->H' b=some (.tup xs)) (hz:∀b o u,H b=some (.frz o u)->H' b=some (.frz o u)):ZS P w H' h' a o:=by
 induction o with
 |lst xs=>obtain⟨z,its,n,r,e⟩:=x;exact⟨z,its,n,r,k _ _ (.inl rfl) e⟩
 |tup xs=>obtain⟨z,its,r,ob,e,c⟩:=x;exact⟨z,its,r,ob,k _ _ (.inl rfl) e,c⟩
 |dK kvs=>obtain⟨z,y,vs,r,ob,es,ep,e,c⟩:=x;exact⟨z,y,vs,r,ob,es,ep,k _ _ (.inl rfl) e,c⟩
 |dT kvs =>
  obtain⟨z,y,xs,r,ob,es,ep,e,c⟩:=x
  exact⟨z,y,xs,Paired.mapP r λp q z=>⟨z.1,ht _ _ z.2.1,z.2.2⟩,ob,es,ep,k _ _ (.inl rfl) e,c⟩
 |set S n=>obtain⟨ob,es,ep,t,e,c⟩:=x;exact⟨ob,es,ep,t,k _ _ (.inl rfl) e,c⟩
 |ins C dx fs =>
  obtain⟨d,z,ne,e,mA,⟨od,es,ep,e2,c⟩,r⟩:=x
  exact⟨ho _ d,z,ne,k _ _ (.inl rfl) e,mA,⟨od,es,ep,k _ _ (.inr d) e2,c⟩,r⟩
 |own y=>obtain⟨ob,e⟩:=x;exact⟨ob,k _ _ (.inl rfl) e⟩
 |xd fs=>obtain⟨mA,⟨od,es,ep,e,c⟩,r⟩:=x;exact⟨mA,⟨od,es,ep,k _ _ (.inl rfl) e,c⟩,r⟩
 |rng lo hi=>obtain⟨t,u,v,e⟩:=x;exact⟨t,u,v,k _ _ (.inl rfl) e⟩
 |frz ob u ih=>obtain⟨e,q⟩:=x;exact⟨k _ _ (.inl rfl) e,ih q⟩
 |tbl ps =>
  obtain⟨ts,e,t3,z⟩:=x
  refine⟨ts,k a _ (.inl rfl) e,t3,λpos cv hc=>?_⟩
  obtain⟨c,oc,vs,q,t,t',e1,e2,r⟩:=z pos cv hc
  exact⟨c,oc,vs,q,t,t',e1,hz _ _ _ e2,r⟩
 |met f y =>
  have e:h.get? a=some (PySem.W.methodObj (.ref f) (.ref y)):=x
  show h'.get? a=some (PySem.W.methodObj (.ref f) (.ref y))
  exact k a _ (.inl rfl) e
 |ext φ=>obtain⟨p,⟨o,e⟩,st⟩:=x;exact⟨st _ _ p λo q=>k _ _ (.inl rfl) q,⟨o,k _ _ (.inl rfl) e⟩,st⟩
theorem HOk.lt (x:HOk P w H h) (e:H a=some o):a<h.objs.size:=(x a o e).lt
theorem HOk.fresh (x:HOk P w H h) (e:h.objs.size<=a):H a=none:=by
 cases q:H a with
 |none=>rfl
 |some u=>exact absurd (Ys (x.lt q) e) (YA _)
theorem HOk.kept (x:HOk P w H h) (k:∀b u,h.get? b=some u->h'.get? b=some u):HOk P w H h':=λa o e =>
 (x a o e).ZgD (λb u _ q=>k b u q) (λ_ q=>q) (λ_ _ q=>q) λ_ _ _ q=>q
theorem HOk.laid (x:HOk P w H h) (k:∀b u,h.get? b=some u->h'.get? b=some u) (hp:h.objs.size<=a) (new:ZS P w (upd H a o) h' a o):HOk P w (upd H a o) h':=λb u e=>by
 have hn:=x.fresh hp
 by_cases hb:b=a
 ·subst hb;rw[Zc]at e;cases e;exact new
 ·rw[Zh hb]at e
  exact(x b u e).ZgD (λc v _ q=>k c v q) (λc q=>by rw[Zh (Zr q hn)];exact q) (λc xs q=>by rw[Zh (Zr q hn)];exact q) λc o u q=>by rw[Zh (Zr q hn)];exact q
end
noncomputable def Rd (H:Hp) (a:Addr) (u:HO):Prop:=H a=some u\/∃o,H a=some (.frz o u)
theorem Rd.ok {P:Program}{w:World}{H:Hp}{h:Heap}{a:Addr}{u:HO} (r:Rd H a u) (x:HOk P w H h):ZS P w H h a u:=by
 rcases r with r|⟨o,r⟩
 ·exact x a u r
 ·obtain⟨_,q⟩:=x a _ r
  exact q
noncomputable def Mut:Option HO->Prop
 |some (.lst _)=>True
 |some (.dK _)=>True
 |some (.dT _)=>True
 |some (.set _ _)=>True
 |some (.ins _ _ _)=>True
 |some (.ext _)=>True
 |_=>False
section
variable {P:Program}{w:World}{H:Hp}{h h':Heap}{x e:Addr}{o':HO}
theorem HOk.write (ok:HOk P w H h) (mu:Mut (H x)) (he:e=x\/H e=some (.own x)) (k:∀b u,b≠e->h.get? b=some u->h'.get? b=some u) (heo:∃u,h'.get? e=some u)
  (new:ZS P w (upd H x o') h' x o'):HOk P w (upd H x o') h':=λb u q=>by
 have nown:∀c y,H c=some (.own y)->c≠x:=λc y r z=>by subst z;rw[r]at mu;exact mu
 have ntup:∀c xs,H c=some (.tup xs)->c≠x:=λc xs r z=>by subst z;rw[r]at mu;exact mu
 have nfrz:∀c o u,H c=some (.frz o u)->c≠x:=λc o u r z=>by subst z;rw[r]at mu;exact mu
 by_cases hb:b=x
 ·subst hb;rw[Zc]at q;cases q;exact new
 ·rw[Zh hb]at q
  by_cases hbe:b=e
  ·have q':H b=some (.own x):=by
    rcases he with z|z
    ·exact absurd (hbe.trans z) hb
    ·rw[hbe];exact z
   rw[q]at q';cases q'
   obtain⟨v,hv⟩:=heo
   exact⟨v,by rw[hbe];exact hv⟩
  ·refine(ok b u q).ZgD (λc v hc r=>k c v ?_ r) (λc r=>by rw[Zh (nown c b r)];exact r) (λc xs r=>by rw[Zh (ntup c xs r)];exact r) λc o u r=>by rw[Zh (nfrz c o u r)];exact r
   rcases hc with rfl|hc
   ·exact hbe
   ·rintro rfl
    rcases he with z|z
    ·exact nown c b hc z
    ·rw[hc]at z;cases z;exact hb rfl
end
structure Un (fs ex:List Addr) (H H':Hp) (h h':Heap):Prop where
 keep:∀b o,h.get? b=some o->H b=none->b∉fs->b∉ex->h'.get? b=some o
 slot:∀b o,h.get? b=some o->H b=none->b∈fs->b∉ex->∃sl,h'.get? b=some {o with slots:=sl}
 free:∀b o,h.get? b=some o->H b=none->b∉ex->H' b=none
 there:∀b o,h.get? b=some o->b∉ex->∃o',h'.get? b=some o'
 tups:∀b xs,H b=some (.tup xs)->H' b=some (.tup xs)
 frzs:∀b o u,H b=some (.frz o u)->H' b=some (.frz o u)
 tbls:∀b ps,H b=some (.tbl ps)->∃more,H' b=some (.tbl (ps++more))
section
variable {fs fs' ex ex':List Addr}{H H1 H2:Hp}{h h1 h2 h':Heap}{a x e:Addr}{o:HO}
theorem Un.any (u:Un fs ex H H1 h h1) {b:Addr}{ob:Obj} (q:h.get? b=some ob) (n:H b=none) (hx:b∉ex):∃sl,h1.get? b=some {ob with slots:=sl}:=by
 by_cases hb:b∈fs
 ·exact u.slot b ob q n hb hx
 ·exact⟨ob.slots,u.keep b ob q n hb hx⟩
theorem Un.kept (k:∀b u,h.get? b=some u->h'.get? b=some u):Un fs ex H H h h' :=
 ⟨λb ob q _ _ _=>k b ob q,λb ob q _ _ _=>⟨ob.slots,k b ob q⟩,λ_ _ _ n _=>n,λb ob q _=>⟨ob,k b ob q⟩,λ_ _ q=>q,λ_ _ _ q=>q,λ_ ps q=>⟨#[],by rw[q];simp⟩⟩
theorem Un.refl:Un fs ex H H h h:=Un.kept λ_ _ q=>q
theorem Un.laid (k:∀b u,h.get? b=some u->h'.get? b=some u) (hp:h.objs.size<=a) (hn:H a=none):Un fs ex H (upd H a o) h h' where
 keep:=λb u q _ _ _=>k b u q
 slot:=λb u q _ _ _=>⟨u.slots,k b u q⟩
 free:=λb u q n _=>by rw[Zh (Yk (Ys (Yj q) hp))];exact n
 there:=λb u q _=>⟨u,k b u q⟩
 tups:=λb xs q=>by rw[Zh (Zr q hn)];exact q
 frzs:=λb u xs q=>by rw[Zh (Zr q hn)];exact q
 tbls:=λb ps q=>⟨#[],by rw[Zh (Zr q hn),q];simp⟩
theorem Un.write (mu:Mut (H x)) (he:e=x\/H e=some (.own x)) (k:∀b u,b≠e->h.get? b=some u->h'.get? b=some u) (heo:∃u,h'.get? e=some u):Un fs ex H (upd H x o) h h':=by
 have hx:∀b,H b=none->b≠x:=λb n z=>by subst z;rw[n]at mu;exact mu
 have hb:∀b,H b=none->b≠e:=λb n z=>by
  subst z
  rcases he with r|r
  ·exact hx b n r
  ·rw[n]at r;cases r
 have hm:∀b u,H b=some u->¬ Mut (some u)->b≠x:=λb u q nm z=>by subst z;rw[q]at mu;exact nm mu
 refine⟨λb u q n _ _=>k b u (hb b n) q,λb u q n _ _=>⟨u.slots,k b u (hb b n) q⟩,λb u q n _=>by rw[Zh (hx b n)];exact n,λb u q _=>?_,
  λb xs q=>by rw[Zh (hm b _ q λz=>z)];exact q,λb u xs q=>by rw[Zh (hm b _ q λz=>z)];exact q,λb ps q=>⟨#[],by rw[Zh (hm b _ q λz=>z),q];simp⟩⟩
 by_cases hbe:b=e
 ·subst hbe;exact heo
 ·exact⟨u,k b u hbe q⟩
end
noncomputable def trk (h:Heap) (H:Hp):List Addr:=(List.range h.objs.size).filter λa=>(H a).isSome
noncomputable def Zi6 (h:Heap) (H:Hp):Heap:=PySem.W.hideAll h (trk h H)
theorem Zm6 (h:Heap) (H:Hp):(Zi6 h H).objs.size=h.objs.size:=PySem.W.hideAll_size _ _
theorem ZoK {h:Heap}{H:Hp}{b:Addr}{o:Obj} (e:h.get? b=some o) (n:H b=none):(Zi6 h H).get? b=some o :=
 PySem.W.hideAll_get _ e λhm=>by
  have q:(H b).isSome=true:=(YS.mp hm).2
  rw[n]at q;simp at q
theorem Zq2 {h:Heap}{H:Hp}{b:Addr}{o:Obj} (e:(Zi6 h H).get? b=some o):h.get? b=some o/\H b=none:=by
 have e':h.get? b=some o:=PySem.W.of_hideAll (trk h H) e
 refine⟨e',?_⟩
 cases q:H b with
 |none=>rfl
 |some x =>
  have hm:b∈trk h H:=YS.mpr ⟨Yz.mpr (Yj e'),by simp[q]⟩
  have z:(Zi6 h H).get? b=none:=PySem.W.hideAll_none (trk h H) hm
  rw[z]at e;cases e
noncomputable def Zq3 (g h:Heap) (L:Addr):List (Addr×Obj):=(List.range h.objs.size).filterMap λa=>if a=L\/(g.get? a).isSome=true then none else (h.get? a).map λo=>(a,o)
noncomputable def rest (g h:Heap) (L d:Addr):List (Addr×Obj):=(Zq3 g h L).filter λp=>decide (p.1≠d)
structure Mod (K:PySem.W.Frag) (mg:Str->Option Value) (base:Heap):Prop where
 kin:K.In base
 glob:base.Ns mainGlobals mg
 blt:∃mb,base.Ns builtinsNs mb/\∀x:Str,x≠"__name__"->mb x=bootBuiltins x
 nolimit:base.NoLimit
structure Cx where
 prog:Program
 w:World
 K:PySem.W.Frag
 mg:Str->Option Value
 base:Heap
 A:Around
 N:List Str
 s₀:Shared
 H₀:Hp
 env:Env
 outer:List Env
 stack:List Env
 ex:List Addr
 fn:Str->Bool
 calm:Bool
 pn:List (Addr×Obj)
 xe:Value->Shared->Prop
noncomputable def frs (l:List Env):List Addr:=l.filterMap (·.frame)
noncomputable abbrev Cx.fs (X:Cx):List Addr:=frs X.outer
noncomputable def Vis (sc:Scope) (x:Str):Prop:=sc.names.lookup x=some .local\/sc.names.lookup x=some .cell\/sc.names.lookup x=some .free
noncomputable def Loc (sc:Scope) (x:Str):Prop:=sc.names.lookup x=some .local\/sc.names.lookup x=some .cell
noncomputable def Look (env:Env) (h:Heap) (m:Str->Option Value) (x:Str) (u:Value):Prop :=
 (env.kindOf x=some .local/\m x=some u)\/((env.kindOf x=some .cell\/env.kindOf x=some .free)/\∃c,env.cells.lookup x=some c/\h.IsCell c (some u))
structure Cx.Ok (X:Cx):Prop where
 mod:Mod X.K X.mg X.base
 kind:X.env.scope.kind=.function
 glob:X.env.globals=mainGlobals
 blt:X.env.builtins=builtinsNs
 above:X.s₀.heap.objs.size<=X.env.locals
 inj:∀x y c,X.env.cells.lookup x=some c->X.env.cells.lookup y=some c->x=y
 has:∀x,(X.env.kindOf x=some .cell\/X.env.kindOf x=some .free)->∃c,X.env.cells.lookup x=some c
 cab:∀x c,X.fn x=true->X.env.cells.lookup x=some c->X.s₀.heap.objs.size<=c
 hd:X.calm=true->X.A.handled=none
 frames:X.A.frames=some X.stack
 stk:X.stack=X.outer\/(X.stack=X.env::X.outer/\X.env.frame=some X.env.locals)
 exf:∀b∈X.ex,b≠X.env.locals/\∀x c,X.env.cells.lookup x=some c->c≠b
 bs:∀b o,X.base.get? b=some o->X.s₀.heap.get? b=some o/\X.H₀ b=none
 bsz:X.base.objs.size<=X.s₀.heap.objs.size
 noex:∀b o,X.base.get? b=some o->b∉X.ex
 exfs:∀b∈X.ex,b∉X.fs
 funs:X.s₀.heap.FunFrames X.base X.outer
 frf:∀b∈X.fs,X.H₀ b=none
structure Inv (X:Cx) (pins:List (Addr×Obj)) (σ:List (Option V)) (H:Hp) (s:Shared):Prop where
 ok:X.Ok
 os:s.os=X.s₀.os
 bare:AllBare s.gens
 base:Un X.fs X.ex X.H₀ H X.s₀.heap s.heap
 loc:∃m,s.heap.Ns X.env.locals m/\∀(i:Nat) (x:Str) (v:V),X.N[i]?=some x->σ[i]?=some (some v)->Vis X.env.scope x->∃u,RelV v u/\Look X.env s.heap m x u
 cell:∀x c,X.env.cells.lookup x=some c->∃v,s.heap.IsCell c v
 free:H X.env.locals=none
 freeC:∀x c,X.env.cells.lookup x=some c->H c=none
 pin:∀p∈X.pn++pins,s.heap.get? p.1=some p.2/\H p.1=none/\p.1≠X.env.locals/\p.1∉X.fs/\∀v,p.2.data≠.cell v
 hok:HOk X.prog X.w H s.heap
 len:σ.length=X.N.length
section
variable {X:Cx}{pins:List (Addr×Obj)}{σ:List (Option V)}{H H':Hp}{s:Shared}{h':Heap}
theorem Cx.Ok.nofr (ok:X.Ok) {b:Addr}{o:Obj} (e:X.base.get? b=some o):b∉X.fs:=λhb=>by
 have:=(ok.funs.mem hb).1
 rw[e]at this;cases this
theorem Inv.bs (I:Inv X pins σ H s):∀b o,X.base.get? b=some o->s.heap.get? b=some o/\H b=none:=λb o e =>
 ⟨I.base.keep b o (I.ok.bs b o e).1 (I.ok.bs b o e).2 (I.ok.nofr e) (I.ok.noex b o e),I.base.free b o (I.ok.bs b o e).1 (I.ok.bs b o e).2 (I.ok.noex b o e)⟩
theorem Inv.bk (I:Inv X pins σ H s):∀b o,X.base.get? b=some o->s.heap.get? b=some o:=λb o e=>(I.bs b o e).1
theorem Inv.mod (I:Inv X pins σ H s):Mod X.K X.mg X.base:=I.ok.mod
theorem Inv.kIn (I:Inv X pins σ H s):X.K.In s.heap:=I.ok.mod.kin.keeps I.bk
theorem Inv.nolimit (I:Inv X pins σ H s):s.heap.NoLimit:=I.ok.mod.nolimit.keeps I.bk
theorem Inv.lt (I:Inv X pins σ H s):X.env.locals<s.heap.objs.size:=let ⟨_,hn,_⟩:=I.loc;hn.lt
theorem Inv.sz (I:Inv X pins σ H s):X.s₀.heap.objs.size<=s.heap.objs.size:=Yf I.ok.above (YI I.lt)
theorem Inv.nofs (I:Inv X pins σ H s) {a:Addr} (h:s.heap.objs.size<=a):a∉X.fs:=λhb=>by
 obtain⟨_,o,ho,_⟩:=I.ok.funs.mem hb
 exact absurd (Ys (Yj ho) (Yf I.sz h)) (YA _)
theorem Inv.cne (I:Inv X pins σ H s):∀x c,X.env.cells.lookup x=some c->c≠X.env.locals:=λx c e z=>by
 obtain⟨v,o,ho,hd⟩:=I.cell x c e
 obtain⟨m,⟨o',es,ep,ho',hd',_⟩,_⟩:=I.loc
 rw[z,ho']at ho;cases ho;rw[hd']at hd;cases hd
theorem Inv.funs (I:Inv X pins σ H s):s.heap.FunFrames X.base X.outer:=by
 have all:∀(l:List Env),(∀b∈frs l,b∈X.fs)->X.s₀.heap.FunFrames X.base l->s.heap.FunFrames X.base l:=by
  intro l
  induction l with
  |nil=>intro _ _;trivial
  |cons env r ih =>
   intro hs hl
   obtain⟨hk,⟨L,o,hf,hn,ho,hd⟩,hr⟩:=hl
   have hL:L∈X.fs:=hs L (by unfold frs;rw[List.filterMap_cons,hf];exact YO)
   obtain⟨sl,e⟩:=I.base.slot L o ho (I.ok.frf L hL) hL λz=>I.ok.exfs L z hL
   exact⟨hk,⟨L,_,hf,hn,e,hd⟩,ih (λb hb=>hs b (by unfold frs;rw[List.filterMap_cons,hf];exact YK _ hb)) hr⟩
 exact all X.outer (λ_ hb=>hb) I.ok.funs
theorem Inv.stack (I:Inv X pins σ H s):s.heap.FunFrames X.base X.stack:=by
 rcases I.ok.stk with e|⟨e,hf⟩
 ·rw[e];exact I.funs
 ·rw[e]
  obtain⟨m,hn,_⟩:=I.loc
  refine .cons (by rw[I.ok.kind];decide) hf hn ?_ I.funs
  exact Heap.get?_none_of_le (Yf I.ok.bsz I.ok.above)
theorem Inv.ZgE (I:Inv X pins σ H s):∀b∈frs X.stack,b∈X.env.locals::X.fs:=λb hb=>by
 rcases I.ok.stk with e|⟨e,hf⟩
 ·rw[e]at hb;exact YK _ hb
 ·rw[e]at hb
  unfold frs at hb
  rw[List.filterMap_cons,hf]at hb
  exact hb
theorem Inv.ZhR (I:Inv X pins σ H s):∀b∈frs X.stack,H b=none:=λb hb=>by
 rcases Yl.mp (I.ZgE b hb)with e|hb
 ·rw[e];exact I.free
 ·obtain⟨_,o,ho,_⟩:=I.ok.funs.mem hb
  exact I.base.free b o ho (I.ok.frf b hb) λz=>I.ok.exfs b z hb
theorem Inv.step {g':Array GenState}{t':Nat}{d':Drawn}{ch:List Addr} (I:Inv X pins σ H s)
  (hch:∀b∈ch,(b∈X.ex\/X.s₀.heap.objs.size<=b)/\b≠X.env.locals/\(∀x c,X.env.cells.lookup x=some c->c≠b)/\∀p∈X.pn++pins,p.1≠b)
  (keep:∀b o,b≠X.env.locals->b∉X.fs->b∉ch->s.heap.get? b=some o->H b=none->h'.get? b=some o)
  (slot:∀b o,b≠X.env.locals->b∈X.fs->b∉ch->s.heap.get? b=some o->H b=none->∃sl,h'.get? b=some {o with slots:=sl}) (free:∀b o,b∉ch->s.heap.get? b=some o->H b=none->H' b=none)
  (there:∀b o,b∉ch->s.heap.get? b=some o->∃o',h'.get? b=some o')
  (tups:∀b xs,H b=some (.tup xs)->H' b=some (.tup xs)) (frzs:∀b o u,H b=some (.frz o u)->H' b=some (.frz o u)) (tbls:∀b ps,H b=some (.tbl ps)->∃more,H' b=some (.tbl (ps++more)))
  (ns:∀m,s.heap.Ns X.env.locals m->h'.Ns X.env.locals m) (hok:HOk X.prog X.w H' h') (hg:AllBare g') :
  Inv X pins σ H' {s with heap:=h',gens:=g',drawn:=d',toks:=t'}:=by
 have neL:∀b o,X.s₀.heap.get? b=some o->b≠X.env.locals:=λb o e=>Yk (Ys (Yj e) I.ok.above)
 have neC:∀b o,X.s₀.heap.get? b=some o->b∉X.ex->b∉ch:=λb o e hx hb=>by
  rcases(hch b hb).1 with z|z
  ·exact hx z
  ·exact absurd (Ys (Yj e) z) (YA _)
 have cellK:∀x c,X.env.cells.lookup x=some c->∀v,s.heap.IsCell c v->h'.IsCell c v:=λx c e v ⟨o,ho,hd⟩=>by
  have nch:c∉ch:=λz=>(hch c z).2.2.1 x c e rfl
  by_cases hc:c∈X.fs
  ·obtain⟨sl,q⟩:=slot c o (I.cne x c e) hc nch ho (I.freeC x c e)
   exact⟨_,q,hd⟩
  ·exact⟨o,keep c o (I.cne x c e) hc nch ho (I.freeC x c e),hd⟩
 refine⟨I.ok,I.os,hg,⟨λb o e n hb hx=>?_,λb o e n hb hx=>?_,λb o e n hx=>?_,λb o e hx=>?_,λb xs e=>tups b xs (I.base.tups b xs e),λb o xs e=>frzs b o xs (I.base.frzs b o xs e),λb ps e=>?_⟩,?_,λx c e=>?_,?_,λx c e=>?_,λp hp=>?_,hok,I.len⟩
 ·exact keep b o (neL b o e) hb (neC b o e hx) (I.base.keep b o e n hb hx) (I.base.free b o e n hx)
 ·obtain⟨sl,e1⟩:=I.base.slot b o e n hb hx
  obtain⟨sl',e2⟩:=slot b _ (neL b o e) hb (neC b o e hx) e1 (I.base.free b o e n hx)
  exact⟨sl',e2⟩
 ·obtain⟨o',e1⟩:=I.base.there b o e hx
  exact free b o' (neC b o e hx) e1 (I.base.free b o e n hx)
 ·obtain⟨o',e1⟩:=I.base.there b o e hx
  exact there b o' (neC b o e hx) e1
 ·obtain⟨m1,e1⟩:=I.base.tbls b ps e
  obtain⟨m2,e2⟩:=tbls b _ e1
  exact⟨m1++m2,by rw[e2,Array.append_assoc]⟩
 ·obtain⟨m,hn,hl⟩:=I.loc
  refine⟨m,ns m hn,λi x v e1 e2 e3=>?_⟩
  obtain⟨u,r,l⟩:=hl i x v e1 e2 e3
  refine⟨u,r,?_⟩
  rcases l with l|⟨k,c,e,z⟩
  ·exact .inl l
  ·exact .inr ⟨k,c,e,cellK x c e _ z⟩
 ·obtain⟨v,z⟩:=I.cell x c e
  exact⟨v,cellK x c e v z⟩
 ·obtain⟨m,⟨o,_,_,ho,_⟩,_⟩:=I.loc
  exact free _ o (λz=>(hch _ z).2.1 rfl) ho I.free
 ·obtain⟨v,o,ho,hd⟩:=I.cell x c e
  exact free c o (λz=>(hch c z).2.2.1 x c e rfl) ho (I.freeC x c e)
 ·obtain⟨e,n,ne,nf,d⟩:=I.pin p hp
  have nch:p.1∉ch:=λz=>(hch p.1 z).2.2.2 p hp rfl
  exact⟨keep p.1 p.2 ne nf nch e n,free p.1 p.2 nch e n,ne,nf,d⟩
theorem Inv.un {t':Nat} (I:Inv X pins σ H s) (u:Un X.fs [] H H' s.heap h') (hok:HOk X.prog X.w H' h'):Inv X pins σ H' {s with heap:=h',toks:=t'}:=by
 obtain⟨m,⟨o,es,ep,ho,r⟩,_⟩:=id I.loc
 obtain⟨sl,hL⟩:=u.any ho I.free (by simp)
 exact I.step (g':=s.gens) (d':=s.drawn) (ch:=[]) (λ_ z=>nomatch z) (λb o _ hb _ e n=>u.keep b o e n hb (by simp)) (λb o _ hb _ e n=>u.slot b o e n hb (by simp)) (λb o _ e n=>u.free b o e n (by simp)) (λb o _ e=>u.there b o e (by simp)) u.tups u.frzs u.tbls (λm' hm=>by
  obtain⟨o',es',ep',ho',r'⟩:=hm
  rw[ho]at ho';cases ho'
  exact⟨_,es',ep',hL,r'⟩) hok I.bare
theorem Inv.call {g':Array GenState}{t':Nat}{d':Drawn}{ch:List Addr} (I:Inv X pins σ H s) (u:Un (frs X.stack) ch H H' s.heap h') (hok:HOk X.prog X.w H' h') (hg:AllBare g')
  (hch:∀b∈ch,(b∈X.ex\/X.s₀.heap.objs.size<=b)/\b≠X.env.locals/\(∀x c,X.env.cells.lookup x=some c->c≠b)/\∀p∈X.pn++pins,p.1≠b) :
  Inv X pins σ H' {s with heap:=h',gens:=g',drawn:=d',toks:=t'}:=by
 obtain⟨m,⟨o,es,ep,ho,r⟩,_⟩:=id I.loc
 obtain⟨sl,hL⟩:=u.any ho I.free λz=>(hch _ z).2.1 rfl
 exact I.step (ch:=ch) hch (λb o hL hb hc e n=>u.keep b o e n (λz=>(Yl.mp (I.ZgE b z)).elim hL hb) hc) (λb o _ _ hc e n=>u.any e n hc) (λb o hc e n=>u.free b o e n hc) (λb o hc e=>u.there b o e hc) u.tups u.frzs u.tbls (λm' hm=>by
  obtain⟨o',es',ep',ho',r'⟩:=hm
  rw[ho]at ho';cases ho'
  exact⟨_,es',ep',hL,r'⟩) hok hg
theorem Inv.turned {t':Nat}{it:Addr} (I:Inv X pins σ H s) (k:∀b o,b≠it->s.heap.get? b=some o->h'.get? b=some o) (hn:H it=none) (hL:it≠X.env.locals)
  (h1:it∈X.ex\/X.s₀.heap.objs.size<=it) (h2:∀x c,X.env.cells.lookup x=some c->c≠it) (h3:∀p∈X.pn++pins,p.1≠it):Inv X pins σ H {s with heap:=h',toks:=t'}:=by
 have nit:∀b u,H b=some u->b≠it:=λb u e z=>by rw[z,hn]at e;cases e
 refine I.step (g':=s.gens) (d':=s.drawn) (ch:=[it]) (λb hb=>?_) (λb o _ _ hc e _=>k b o (λz=>hc (by simp[z])) e) (λb o _ _ hc e _=>⟨o.slots,k b o (λz=>hc (by simp[z])) e⟩) (λ_ _ _ _ n=>n)
  (λb o hc e=>⟨o,k b o (λz=>hc (by simp[z])) e⟩) (λ_ _ e=>e) (λ_ _ _ e=>e) (λb ps e=>⟨#[],by rw[e];simp⟩) (λm hm=>?_) (λb u e=>?_) I.bare
 ·have e:b=it:=by simpa using hb
  subst e
  exact⟨h1,hL,h2,h3⟩
 ·obtain⟨o,es,ep,ho,r⟩:=hm
  exact⟨o,es,ep,k _ o (Ne.symm hL) ho,r⟩
 ·refine(I.hok b u e).ZgD (λc v hc q=>k c v ?_ q) (λ_ q=>q) (λ_ _ q=>q) λ_ _ _ q=>q
  rcases hc with z|z
  ·rw[z];exact nit b u e
  ·exact nit c _ z
theorem Inv.tok (I:Inv X pins σ H s) (t:Nat):Inv X pins σ H {s with toks:=t}:=I.un (h':=s.heap) (t':=t) Un.refl I.hok
theorem Inv.kept {t':Nat} (I:Inv X pins σ H s) (k:∀b u,s.heap.get? b=some u->h'.get? b=some u):Inv X pins σ H {s with heap:=h',toks:=t'}:=I.un (Un.kept k) (I.hok.kept k)
theorem Inv.laid {a:Addr}{o:HO}{t':Nat} (I:Inv X pins σ H s) (k:∀b u,s.heap.get? b=some u->h'.get? b=some u) (hp:s.heap.objs.size<=a) (new:ZS X.prog X.w (upd H a o) h' a o) :
  Inv X pins σ (upd H a o) {s with heap:=h',toks:=t'}:=I.un (Un.laid k hp (I.hok.fresh hp)) (I.hok.laid k hp new)
theorem Inv.write {x e:Addr}{o:HO}{t':Nat} (I:Inv X pins σ H s) (mu:Mut (H x)) (he:e=x\/H e=some (.own x)) (k:∀b u,b≠e->s.heap.get? b=some u->h'.get? b=some u) (heo:∃u,h'.get? e=some u)
  (new:ZS X.prog X.w (upd H x o) h' x o):Inv X pins σ (upd H x o) {s with heap:=h',toks:=t'}:=I.un (Un.write mu he k heo) (I.hok.write mu he k heo new)
theorem Inv.weak {σ':List (Option V)} (I:Inv X pins σ H s) (hl:σ'.length=σ.length) (w:∀(i:Nat) v,σ'[i]?=some (some v)->σ[i]?=some (some v)):Inv X pins σ' H s :=
 ⟨I.ok,I.os,I.bare,I.base,let ⟨m,hn,hl'⟩:=I.loc;⟨m,hn,λi x v e1 e2 e3=>hl' i x v e1 (w i v e2) e3⟩,I.cell,I.free,I.freeC,I.pin,I.hok,hl.trans I.len⟩
theorem Inv.Zbh {pins':List (Addr×Obj)} (I:Inv X pins σ H s) (h:∀p∈pins',s.heap.get? p.1=some p.2/\H p.1=none/\p.1≠X.env.locals/\p.1∉X.fs/\∀v,p.2.data≠.cell v):Inv X pins' σ H s :=
 ⟨I.ok,I.os,I.bare,I.base,I.loc,I.cell,I.free,I.freeC,λp hp=>(YE.mp hp).elim (λz=>I.pin p (YN _ z)) (h p),I.hok,I.len⟩
theorem Zh2 {N:List Str} (hN:N.Nodup) {i j:Nat}{x:Str} (a:N[i]?=some x) (b:N[j]?=some x):i=j:=by
 obtain⟨h1,e1⟩:=Yp.mp a
 obtain⟨h2,e2⟩:=Yp.mp b
 exact(List.getElem_inj hN).mp (e1.trans e2.symm)
theorem Zm7 {M:Model}{A:Around}{E:Value->Shared->Prop}{i:Nat}{x:Str}{v:V}{u:Value}{Q:Unit->Shared->Prop} (I:Inv X pins σ H s) (hN:X.N.Nodup) (hi:X.N[i]?=some x) (hx:Loc X.env.scope x) (r:RelV v u)
  (h:∀s',Inv X pins (σ.set i (some v)) H s'->(∃a,Heap.SameBut a s.heap s'.heap/\(a=X.env.locals\/X.env.cells.lookup x=some a))->Q () s') (hf:X.fn x=true\/X.env.scope.names.lookup x=some .local:=by first|exact .inl rfl|exact .inr rfl|assumption):wpAny M A (storeName X.env x u) Q E s:=by
 obtain⟨m,hn,hl⟩:=id I.loc
 have hcls:(X.env.scope.kind==.class||(X.env.scope.kind==.module&&X.env.locals != X.env.globals))=false:=by rw[I.ok.kind];rfl
 have hiσ:i < σ.length:=by rw[I.len];exact(Yp.mp hi).1
 have cne:=I.cne
 have tracked:∀{a:Addr}{h':Heap},(∃o,s.heap.get? a=some o/\H a=none)->Heap.SameBut a s.heap h'->HOk X.prog X.w H h':=λ{a h'} ha hs b ob e=>by
  obtain⟨_,_,hfree⟩:=ha
  refine(I.hok b ob e).ZgD (λc w' hc q=>(hs.2 c ?_).trans q) (λ_ q=>q) (λ_ _ q=>q) λ_ _ _ q=>q
  rintro rfl
  rcases hc with rfl|hc
  ·rw[hfree]at e;cases e
  ·rw[hfree]at hc;cases hc
 rcases hx with hk|hk
 ·refine wpAny_storeName_local hk hn (λh' hn' hs=>?_) hcls
  obtain⟨oL,_,_,hoL,_⟩:=id hn
  refine h _ ⟨I.ok,I.os,I.bare,⟨λb o e n hb hx=>?_,λb o e n hb hx=>?_,I.base.free,λb o e hx=>?_,I.base.tups,I.base.frzs,I.base.tbls⟩,⟨_,hn',λj y v' e1 e2 e3=>?_⟩,λy c e=>?_,I.free,I.freeC,λp hp=>?_,tracked ⟨oL,hoL,I.free⟩ hs,by simpa using I.len⟩ ⟨_,hs,.inl rfl⟩
  ·exact(hs.2 b (Yk (Ys (Yj e) I.ok.above))).trans (I.base.keep b o e n hb hx)
  ·obtain⟨sl,e1⟩:=I.base.slot b o e n hb hx
   exact⟨sl,(hs.2 b (Yk (Ys (Yj e) I.ok.above))).trans e1⟩
  ·obtain⟨o',e1⟩:=I.base.there b o e hx
   exact⟨o',(hs.2 b (Yk (Ys (Yj e) I.ok.above))).trans e1⟩
  ·by_cases hj:j=i
   ·subst hj
    rw[hi]at e1;cases e1
    rw[List.getElem?_set_self hiσ]at e2
    cases e2
    exact⟨u,r,.inl ⟨hk,by simp⟩⟩
   ·rw[List.getElem?_set_ne (Ne.symm hj)]at e2
    obtain⟨u',r',q⟩:=hl j y v' e1 e2 e3
    refine⟨u',r',?_⟩
    rcases q with⟨k,e⟩|⟨k,c,e,z⟩
    ·refine .inl ⟨k,?_⟩
     have:y≠x:=λe=>hj (Zh2 hN e1 (e▸hi))
     simp[this,e]
    ·exact .inr ⟨k,c,e,z.sameBut hs (cne y c e)⟩
  ·obtain⟨w',z⟩:=I.cell y c e
   exact⟨w',z.sameBut hs (cne y c e)⟩
  ·obtain⟨e,n,ne,nf,d⟩:=I.pin p hp
   exact⟨(hs.2 p.1 ne).trans e,n,ne,nf,d⟩
 ·have hfn:X.fn x=true:=by
   rcases hf with z|z
   ·exact z
   ·rw[z]at hk;cases hk
  obtain⟨c,hc⟩:=I.ok.has x (.inl hk)
  obtain⟨w',z⟩:=I.cell x c hc
  refine wpAny_storeName_cell I.ok.kind hk hc z (λh' hc' hs=>?_)
  obtain⟨oc,hoc,hocd⟩:=id z
  refine h {s with heap:=h'} ⟨I.ok,I.os,I.bare,⟨λb o e n hb hx=>?_,λb o e n hb hx=>?_,I.base.free,λb o e hx=>?_,I.base.tups,I.base.frzs,I.base.tbls⟩,⟨m,hn.sameBut hs (Ne.symm (cne x c hc)),λj y v' e1 e2 e3=>?_⟩,λy c' e=>?_,I.free,I.freeC,λp hp=>?_,tracked ⟨oc,hoc,I.freeC x c hc⟩ hs,by simpa using I.len⟩ ⟨c,hs,.inr hc⟩
  ·exact(hs.2 b (Yk (Ys (Yj e) (I.ok.cab x c hfn hc)))).trans (I.base.keep b o e n hb hx)
  ·obtain⟨sl,e1⟩:=I.base.slot b o e n hb hx
   exact⟨sl,(hs.2 b (Yk (Ys (Yj e) (I.ok.cab x c hfn hc)))).trans e1⟩
  ·obtain⟨o',e1⟩:=I.base.there b o e hx
   exact⟨o',(hs.2 b (Yk (Ys (Yj e) (I.ok.cab x c hfn hc)))).trans e1⟩
  ·by_cases hj:j=i
   ·subst hj
    rw[hi]at e1;cases e1
    rw[List.getElem?_set_self hiσ]at e2
    cases e2
    exact⟨u,r,.inr ⟨.inl hk,c,hc,hc'⟩⟩
   ·rw[List.getElem?_set_ne (Ne.symm hj)]at e2
    obtain⟨u',r',q⟩:=hl j y v' e1 e2 e3
    refine⟨u',r',?_⟩
    rcases q with q|⟨k,c',e,z'⟩
    ·exact .inl q
    ·refine .inr ⟨k,c',e,z'.sameBut hs ?_⟩
     rintro rfl
     exact hj (Zh2 hN e1 (I.ok.inj _ _ _ e hc▸hi))
  ·by_cases hcc:c'=c
   ·subst hcc;exact⟨_,hc'⟩
   ·obtain⟨w2,z2⟩:=I.cell y c' e
    exact⟨w2,z2.sameBut hs hcc⟩
  ·obtain⟨e,n,ne,nf,d⟩:=I.pin p hp
   refine⟨(hs.2 p.1 ?_).trans e,n,ne,nf,d⟩
   intro q
   rw[q,hoc]at e
   have q':oc=p.2:=Yy e
   exact d w' (by rw[<-q'];exact hocd)
theorem Zd7 {M:Model}{A:Around}{E:Value->Shared->Prop}{i:Nat}{x:Str}{v:V}{u:Value}{Q:Unit->Shared->Prop} (I:Inv X pins σ H s) (hN:X.N.Nodup) (hi:X.N[i]?=some x) (hx:Loc X.env.scope x) (r:RelV v u)
  (h:∀s',Inv X pins (σ.set i (some v)) H s'->Q () s') (hf:X.fn x=true\/X.env.scope.names.lookup x=some .local:=by first|exact .inl rfl|exact .inr rfl|assumption):wpAny M A (storeName X.env x u) Q E s :=
 Zm7 I hN hi hx r (λs' I' _=>h s' I') hf
theorem Inv.ZoL {s':Shared}{ch:List Addr} (I:Inv X pins σ H s) (ho:s'.os=s.os) (u:Un (frs X.stack) ch H H' s.heap s'.heap) (hok:HOk X.prog X.w H' s'.heap) (hg:AllBare s'.gens)
  (hch:∀b∈ch,(b∈X.ex\/X.s₀.heap.objs.size<=b)/\b≠X.env.locals/\(∀x c,X.env.cells.lookup x=some c->c≠b)/\∀p∈X.pn++pins,p.1≠b):Inv X pins σ H' s':=by
 obtain⟨h',g',d',t',o'⟩:=s'
 have e:o'=s.os:=ho
 subst e
 exact I.call (g':=g') (t':=t') (d':=d') u hok hg hch
end
noncomputable abbrev XK:=Value->Option Addr->Hp->Prop
noncomputable abbrev St:=List (Option V)
noncomputable abbrev VK:=V->Hp->Prop
noncomputable abbrev TE:=St->Hp->VK->Prop
noncomputable abbrev TT:=St->Hp->(Bool->Hp->Prop)->Prop
noncomputable abbrev TA:=St->Hp->(List V->Hp->Prop)->Prop
structure Ends where
 nx:St->Hp->Prop
 rt:VK
 bk:St->Hp->Prop:=λ_ _=>False
 ct:St->Hp->Prop:=λ_ _=>False
noncomputable abbrev TS:=Ends->St->Hp->Prop
noncomputable def EP (X:Cx) (pins:List (Addr×Obj)) (σ:St) (Q:VK) (u:Value) (s':Shared):Prop:=∃v H',Inv X pins σ H' s'/\RelV v u/\Q v H'
noncomputable def TP (X:Cx) (pins:List (Addr×Obj)) (σ:St) (Q:Bool->Hp->Prop) (b:Bool) (s':Shared):Prop:=∃H',Inv X pins σ H' s'/\Q b H'
noncomputable def AP (X:Cx) (pins:List (Addr×Obj)) (σ:St) (Q:List V->Hp->Prop) (us:List Value) (s':Shared):Prop:=∃vs H',Inv X pins σ H' s'/\Vals vs us/\Q vs H'
noncomputable def SP (X:Cx) (pins:List (Addr×Obj)) (D:Ends) (f:Flow) (s':Shared):Prop :=
 match f with
 |.next=>∃σ' H',Inv X pins σ' H' s'/\D.nx σ' H'
 |.brk=>∃σ' H',Inv X pins σ' H' s'/\D.bk σ' H'
 |.cont=>∃σ' H',Inv X pins σ' H' s'/\D.ct σ' H'
 |.ret u=>∃v σ' H',Inv X pins σ' H' s'/\RelV v u/\D.rt v H'
noncomputable def PE (X:Cx) (e:Expr) (t:TE):Prop :=
 ∀(pins:List (Addr×Obj)) (s:Shared) (σ:St) (H:Hp) (Q:VK),Inv X pins σ H s->t σ H Q->wpAny (model X.prog X.w) X.A (eval e X.env) (EP X pins σ Q) X.xe s
noncomputable def PT (X:Cx) (e:Expr) (t:TT):Prop :=
 ∀(pins:List (Addr×Obj)) (s:Shared) (σ:St) (H:Hp) (Q:Bool->Hp->Prop),Inv X pins σ H s->t σ H Q->wpAny (model X.prog X.w) X.A (isTrue e X.env (eval e X.env)) (TP X pins σ Q) X.xe s
noncomputable def PW (X:Cx) (e:Expr) (t:TT):Prop :=
 ∀(whole:Sem Value) (pins:List (Addr×Obj)) (s:Shared) (σ:St) (H:Hp) (Q:Bool->Hp->Prop),Inv X pins σ H s->t σ H Q->wpAny (model X.prog X.w) X.A (isTrue e X.env whole) (TP X pins σ Q) X.xe s
theorem PW.pt {X:Cx}{e:Expr}{t:TT} (h:PW X e t):PT X e t:=h _
noncomputable def PA (X:Cx) (es:List Expr) (t:TA):Prop :=
 ∀(pos:Pos) (pins:List (Addr×Obj)) (s:Shared) (σ:St) (H:Hp) (Q:List V->Hp->Prop),Inv X pins σ H s->t σ H Q->wpAny (model X.prog X.w) X.A (spliced (backTo pos (starEach es X.env))) (AP X pins σ Q) X.xe s
noncomputable def PS (X:Cx) (st:Stmt) (t:TS):Prop :=
 ∀(pins:List (Addr×Obj)) (s:Shared) (σ:St) (H:Hp) (D:Ends),Inv X pins σ H s->t D σ H->wpAny (model X.prog X.w) X.A (exec st X.env) (SP X pins D) X.xe s
noncomputable def PSs (X:Cx) (st:List Stmt) (t:TS):Prop :=
 ∀(pins:List (Addr×Obj)) (s:Shared) (σ:St) (H:Hp) (D:Ends),Inv X pins σ H s->t D σ H->wpAny (model X.prog X.w) X.A (execs st X.env) (SP X pins D) X.xe s
theorem thn {α:Type}{t:Sem α}{Q Q':α->Shared->Prop}{M:Model}{A:Around}{E:Value->Shared->Prop}{s:Shared} (h:wpAny M A t Q E s) (hQ:∀a s,Q a s->Q' a s):wpAny M A t Q' E s:=YB h hQ λ_ _ x=>x
section
variable {X:Cx}
noncomputable def tVar (i:Nat):TE:=fun σ H Q=>∃v,σ[i]?=some (some v)/\Q v H
noncomputable def tC (v:V):TE:=λ_ H Q=>Q v H
theorem pe_var {i:Nat}{x:Str}{pos:Pos} (hN:X.N[i]?=some x) (hv:Vis X.env.scope x) (hd:(x==("__debug__":Str))=false:=by decide) (hcd:(x==("__classdict__":Str))=false:=by decide):PE X (.Name x pos) (tVar i):=by
 intro pins s σ H Q I h
 obtain⟨v,e,h⟩:=h
 obtain⟨m,hn,hl⟩:=I.loc
 obtain⟨u,r,l⟩:=hl i x v hN e hv
 have fin:EP X pins σ Q u s:=⟨v,H,I,r,h⟩
 rcases l with⟨hk,hm⟩|⟨hk,c,hc,hcell⟩
 ·exact wpAny_Name (wpAny_loadName_local I.ok.kind hk hn hm fin) hd
 ·rcases hk with hk|hk
  ·exact wpAny_Name (wpAny_loadName_cell I.ok.kind hk hc hcell fin) hd
  ·exact wpAny_Name (wpAny_loadName_free I.ok.kind hk hc hcell fin hcd) hd
theorem Ze {i j pos}:PE X (.Constant (.int i) j pos) (tC (.int i)):=λ_ _ _ H _ I h=>wpAny_Constant_int ⟨.int i,H,I.tok _,⟨_,rfl⟩,h⟩
theorem ZcF {b j pos}:PE X (.Constant (.bool b) j pos) (tC (.bl b)):=λ_ _ _ H _ I h=>Constant_bool ⟨.bl b,H,I,rfl,h⟩
theorem ZcT {j pos}:PE X (.Constant .none j pos) (tC .non):=λ_ _ _ H _ I h=>Constant_none ⟨.non,H,I,rfl,h⟩
noncomputable def Gl (X:Cx) (x:Str):Prop:=X.env.kindOf x=some .globalImplicit
theorem Zff {E:Value->Shared->Prop}{pins:List (Addr×Obj)}{s:Shared}{σ:St}{H:Hp}{x:Str}{u:Value}{pos:Pos}{Q:Value->Shared->Prop} (I:Inv X pins σ H s) (hg:Gl X x) (hm:X.mg x=some u) (h:Q u s)
  (hd:(x==("__debug__":Str))=false:=by decide):wpAny (model X.prog X.w) X.A (eval (.Name x pos) X.env) Q E s :=
 Calls.Name_function_global I.ok.kind hg (Calls.loadGlobal_global (by rw[I.ok.glob];exact I.mod.glob.keeps I.bk) hm h) hd
theorem ZaW {E:Value->Shared->Prop}{pins:List (Addr×Obj)}{s:Shared}{σ:St}{H:Hp}{x:Str}{u:Value}{pos:Pos}{Q:Value->Shared->Prop} (I:Inv X pins σ H s) (hg:Gl X x) (hm:X.mg x=none) (hv:bootBuiltins x=some u) (h:Q u s)
  (hn:x≠"__name__":=by decide) (hd:(x==("__debug__":Str))=false:=by decide):wpAny (model X.prog X.w) X.A (eval (.Name x pos) X.env) Q E s:=by
 obtain⟨mb,h1,h2⟩:=I.mod.blt
 exact Calls.Name_function_global I.ok.kind hg (Calls.loadGlobal_builtin (by rw[I.ok.glob];exact I.mod.glob.keeps I.bk) hm (by rw[I.ok.blt];exact h1.keeps I.bk) ((h2 x hn).trans hv) h) hd
theorem Zz {x:Str}{v:V}{u:Value}{pos:Pos} (hg:Gl X x) (hm:X.mg x=some u) (r:RelV v u) (hd:(x==("__debug__":Str))=false:=by decide):PE X (.Name x pos) (tC v) :=
 λ_ _ _ H _ I h=>Zff I hg hm ⟨v,H,I,r,h⟩ hd
theorem Zdr {x:Str}{v:V}{u:Value}{pos:Pos} (hg:Gl X x) (hm:X.mg x=none) (hv:bootBuiltins x=some u) (r:RelV v u) (hn:x≠"__name__":=by decide) (hd:(x==("__debug__":Str))=false:=by decide):PE X (.Name x pos) (tC v) :=
 λ_ _ _ H _ I h=>ZaW I hg hm hv ⟨v,H,I,r,h⟩ hn hd
variable {a b:Expr}{ta tb:TE}{pos:Pos}
noncomputable def PC (X:Cx) (op:CmpOp) (a b:Expr) (t:TE):Prop :=
 ∀(pins:List (Addr×Obj)) (s:Shared) (σ:St) (H:Hp) (Q:VK),Inv X pins σ H s->t σ H Q ->
  wpAny (model X.prog X.w) X.A (eval a X.env) (λv s₁=>wpAny (model X.prog X.w) X.A (eval b X.env) (λu s₂=>wpAny (model X.prog X.w) X.A (compareOp op v u) (EP X pins σ Q) X.xe s₂) X.xe s₁) X.xe s
theorem ZoM (b:Expr) {op:CmpOp} (h:op≠.In) (h2:op≠.NotIn):behindInMarks op b=false:=by
 have e1:(op==CmpOp.In)=false:=by cases op<;>first|rfl|exact absurd rfl h
 have e2:(op==CmpOp.NotIn)=false:=by cases op<;>first|rfl|exact absurd rfl h2
 cases b<;>simp[behindInMarks,e1,e2]
noncomputable def tB (t:TE):TT:=fun σ H Q=>t σ H λx H1=>∃c,x=.bl c/\Q c H1
theorem pt_cmp {op:CmpOp}{t:TE} (h:PC X op a b t) (h1:behindInMarks op b=false:=by first|exact ZoM _ (by decide) (by decide)|rfl):PT X (.Compare a [op] [b] pos) (tB t):=by
 intro pins s σ H Q I hw
 refine wpAny_isTrue_Compare1 (thn (h pins s σ H _ I hw) λv s1 h1=>thn h1 λu s2 h2=>thn h2 λc s3 ⟨x,H1,I1,r1,q1⟩=>?_) h1
 obtain⟨d,rfl,q⟩:=q1
 cases r1
 exact wpAny_truthy_bool ⟨H1,I1,q⟩
theorem Zbi {e:Expr}{t:TE} (h:PE X e t) (he:∀whole,isTrue e X.env whole=(do let v <-whole;standAt e.pos;holding [v] (truthy v)):=by intro _;rfl):PT X e (tB t):=by
 intro pins s σ H Q I hw
 refine isTrue_plain (thn (h pins s σ H _ I hw) λv s1 ⟨x,H1,I1,r1,q1⟩=>?_) (he _)
 obtain⟨d,rfl,q⟩:=q1
 cases r1
 exact wpAny_truthy_bool ⟨H1,I1,q⟩
variable {tA tB':TT}{rest:List Expr}
noncomputable def tAnd (t u:TT):TT:=fun σ H Q=>t σ H λc H1=>if c=true then u σ H1 Q else Q false H1
noncomputable def tOr (t u:TT):TT:=fun σ H Q=>t σ H λc H1=>if c=true then Q true H1 else u σ H1 Q
noncomputable def tNot (t:TT):TT:=fun σ H Q=>t σ H λc H1=>Q (!c) H1
theorem Za2 (ha:PT X a tA):PW X (.BoolOp .And [a] pos) tA:=by
 intro wh pins s σ H Q I h
 refine isTrue_and (thn (ha pins s σ H Q I h) λc s1 e=>?_)
 cases c with
 |true=>exact isTrue_and_nil e
 |false=>exact e
theorem Zd8 (ha:PT X a tA):PW X (.BoolOp .Or [a] pos) tA:=by
 intro wh pins s σ H Q I h
 refine isTrue_or (thn (ha pins s σ H Q I h) λc s1 e=>?_)
 cases c with
 |false=>exact isTrue_or_nil e
 |true=>exact e
theorem ZbT (ha:PT X a tA) (hb:PW X (.BoolOp .And (b::rest) pos) tB'):PW X (.BoolOp .And (a::b::rest) pos) (tAnd tA tB'):=by
 intro wh pins s σ H Q I h
 refine isTrue_and (thn (ha pins s σ H _ I h) λc s1 ⟨H1,I1,q1⟩=>?_)
 cases c with
 |true=>exact hb wh pins s1 σ H1 Q I1 q1
 |false=>exact⟨H1,I1,q1⟩
theorem Zha (ha:PT X a tA) (hb:PW X (.BoolOp .Or (b::rest) pos) tB'):PW X (.BoolOp .Or (a::b::rest) pos) (tOr tA tB'):=by
 intro wh pins s σ H Q I h
 refine isTrue_or (thn (ha pins s σ H _ I h) λc s1 ⟨H1,I1,q1⟩=>?_)
 cases c with
 |true=>exact⟨H1,I1,q1⟩
 |false=>exact hb wh pins s1 σ H1 Q I1 q1
theorem Zaq (ha:PT X a tA):PT X (.UnaryOp .Not a pos) (tNot tA):=by
 intro pins s σ H Q I h
 exact isTrue_not (ha pins s σ H (λc H1=>Q (!c) H1) I h)
noncomputable def tAndV (ta tb:TE):TE:=fun σ H Q=>ta σ H λx H1=>∃c,x=.bl c/\if c=true then tb σ H1 Q else Q (.bl false) H1
noncomputable def tNotV (ta:TE):TE:=fun σ H Q=>ta σ H λx H1=>∃c,x=.bl c/\Q (.bl (!c)) H1
theorem ZgF {op}{t:TE} (h:PE X a t):PE X (.BoolOp op [a] pos) t:=λpins s σ H Q I hw=>BoolOp_one (h pins s σ H Q I hw)
theorem ZgG (ha:PE X a ta) (hb:PE X (.BoolOp .And (b::rest) pos) tb):PE X (.BoolOp .And (a::b::rest) pos) (tAndV ta tb):=by
 intro pins s σ H Q I h
 refine BoolOp_and (thn (ha pins s σ H _ I h) λv s1 ⟨x,H1,I1,r1,q1⟩=>?_)
 obtain⟨c,rfl,q1⟩:=q1
 cases r1
 refine wpAny_truthy_bool ?_
 cases c with
 |true=>exact hb pins s1 σ H1 Q I1 q1
 |false=>exact⟨.bl false,H1,I1,rfl,q1⟩
theorem pe_not (ha:PE X a ta):PE X (.UnaryOp .Not a pos) (tNotV ta):=by
 intro pins s σ H Q I h
 refine UnaryOp_ (thn (ha pins s σ H _ I h) λv s1 ⟨x,H1,I1,r1,q1⟩=>?_)
 obtain⟨c,rfl,q1⟩:=q1
 cases r1
 exact not_of (wpAny_truthy_bool ⟨.bl (!c),H1,I1,rfl,q1⟩)
noncomputable def tIf (t:TT) (ta tb:TE):TE:=fun σ H Q=>t σ H λc H1=>if c=true then ta σ H1 Q else tb σ H1 Q
theorem Zh3 {c:Expr} (hc:PT X c tA) (ha:PE X a ta) (hb:PE X b tb):PE X (.IfExp c a b pos) (tIf tA ta tb):=by
 intro pins s σ H Q I h
 refine wpAny_IfExp (thn (hc pins s σ H _ I h) λd s1 ⟨H1,I1,q1⟩=>?_)
 cases d with
 |true=>exact ha pins s1 σ H1 Q I1 q1
 |false=>exact hb pins s1 σ H1 Q I1 q1
end
noncomputable def SqL (K:PySem.W.Frag) (H:Hp) (a:Addr) (xs:List V):Prop :=
 Rd H a (.lst xs) \/
  ∃(o:Obj) (its:Array Value) (n:Nat),K.lookup a=some o/\o.cls=.type "list"/\o.dict=none/\o.data=.seq its n/\its.size<=sizeLine/\Vals xs its.toList
noncomputable def SqT (K:PySem.W.Frag) (H:Hp) (a:Addr) (xs:List V):Prop :=
 Rd H a (.tup xs) \/
  ∃(o:Obj) (its:Array Value) (n:Nat),K.lookup a=some o/\o.cls=.type "tuple"/\o.data=.seq its n/\its.size<=sizeLine/\Vals xs its.toList
noncomputable def absV:Value->Option V
 |.none=>some .non
 |.bool b=>some (.bl b)
 |.int i _=>some (.int i)
 |.str x _=>some (.str x)
 |.bytes b _=>some (.byt b)
 |.float b _=>some (.flt b)
 |.ref a=>some (.ref a)
 |.type n=>some (.ty n)
 |_=>none
theorem RelV.abs {x:V}{u:Value} (r:RelV x u):absV u=some x:=by
 cases x with
 |non=>cases r;rfl
 |bl _=>cases r;rfl
 |int _=>obtain⟨t,rfl⟩:=r;rfl
 |str _=>obtain⟨t,rfl⟩:=r;rfl
 |byt _=>obtain⟨t,rfl⟩:=r;rfl
 |flt _=>obtain⟨t,rfl⟩:=r;rfl
 |ref _=>cases r;rfl
 |ty _=>cases r;rfl
theorem RelV.inj {x y:V}{u:Value} (r:RelV x u) (q:RelV y u):x=y:=Yy (r.abs.symm.trans q.abs)
theorem Vals.inj:∀{xs ys:List V}{us:List Value},Vals xs us->Vals ys us->xs=ys
 |_,_,_,.nil,.nil=>rfl
 |_,_,_,.cons r t,.cons r' t'=>by rw[r.inj r',Vals.inj t t']
section
variable {X:Cx}{pins:List (Addr×Obj)}{σ:St}{H:Hp}{s:Shared}{a:Addr}{xs ys:List V}
theorem SqL.of {K:PySem.W.Frag} (h:H a=some (.lst xs)):SqL K H a xs:=.inl (.inl h)
theorem SqT.of {K:PySem.W.Frag} (h:H a=some (.tup xs)):SqT K H a xs:=.inl (.inl h)
theorem Inv.list (I:Inv X pins σ H s) (h:SqL X.K H a xs):∃its:List Value,Vals xs its/\PlainL s.heap a its.toArray/\xs.length<=sizeLine:=by
 rcases h with h|⟨o,its,n,hk,hc,hd,hs,hz,r⟩
 ·obtain⟨z,its,n,r,e⟩:=h.ok I.hok
  exact⟨its,r,⟨_,n,e,rfl,rfl,rfl⟩,z⟩
 ·refine⟨its.toList,r,⟨o,n,I.kIn a o hk,hc,hd,by simpa using hs⟩,?_⟩
  have e:=r.length
  simp only[YM]at e
  omega
theorem Inv.tuple (I:Inv X pins σ H s) (h:SqT X.K H a xs):∃its:List Value,Vals xs its/\IsTup s.heap a its.toArray/\xs.length<=sizeLine:=by
 rcases h with h|⟨o,its,n,hk,hc,hs,hz,r⟩
 ·obtain⟨z,its,r,p⟩:=h.ok I.hok
  exact⟨its,r,p,z⟩
 ·refine⟨its.toList,r,⟨o,I.kIn a o hk,hc,n,by simpa using hs⟩,?_⟩
  have e:=r.length
  simp only[YM]at e
  omega
theorem Inv.Zde (I:Inv X pins σ H s) (h:SqL X.K H a xs) (h':SqL X.K H a ys):xs=ys:=by
 obtain⟨its,r,⟨o,n,e,_,_,d⟩,_⟩:=I.list h
 obtain⟨its',r',⟨o',n',e',_,_,d'⟩,_⟩:=I.list h'
 rw[e]at e';cases e'
 rw[d]at d'
 injection d' with d1 _
 have:its=its':=by simpa using congrArg Array.toList d1
 subst this
 exact r.inj r'
theorem Inv.ZgH (I:Inv X pins σ H s) (h:SqT X.K H a xs) (h':SqT X.K H a ys):xs=ys:=by
 obtain⟨its,r,⟨o,e,_,n,d⟩,_⟩:=I.tuple h
 obtain⟨its',r',⟨o',e',_,n',d'⟩,_⟩:=I.tuple h'
 rw[e]at e';cases e'
 rw[d]at d'
 injection d' with d1 _
 have:its=its':=by simpa using congrArg Array.toList d1
 subst this
 exact r.inj r'
end
noncomputable abbrev Cx.Zi7 (X:Cx) (E:Value->Shared->Prop):Cx:={X with xe:=E}
noncomputable abbrev Cx.nox (X:Cx):Cx:=X.Zi7 λ_ _=>False
theorem Cx.Ok.Zi7 {X:Cx} (ok:X.Ok) (E:Value->Shared->Prop):(X.Zi7 E).Ok :=
 ⟨ok.mod,ok.kind,ok.glob,ok.blt,ok.above,ok.inj,ok.has,ok.cab,ok.hd,ok.frames,ok.stk,ok.exf,ok.bs,ok.bsz,ok.noex,ok.exfs,ok.funs,ok.frf⟩
theorem Cx.Ok.Zd9 {X:Cx}{E:Value->Shared->Prop} (ok:(X.Zi7 E).Ok):X.Ok :=
 ⟨ok.mod,ok.kind,ok.glob,ok.blt,ok.above,ok.inj,ok.has,ok.cab,ok.hd,ok.frames,ok.stk,ok.exf,ok.bs,ok.bsz,ok.noex,ok.exfs,ok.funs,ok.frf⟩
section
variable {X:Cx}{pins:List (Addr×Obj)}{σ:St}{H:Hp}{s:Shared}{E:Value->Shared->Prop}
theorem Inv.Zi7 (I:Inv X pins σ H s) (E:Value->Shared->Prop):Inv (X.Zi7 E) pins σ H s:=⟨I.ok.Zi7 E,I.os,I.bare,I.base,I.loc,I.cell,I.free,I.freeC,I.pin,I.hok,I.len⟩
theorem Inv.Zd9 (I:Inv (X.Zi7 E) pins σ H s):Inv X pins σ H s:=⟨I.ok.Zd9,I.os,I.bare,I.base,I.loc,I.cell,I.free,I.freeC,I.pin,I.hok,I.len⟩
theorem SP.Zd9 {D:Ends}{f:Flow}{s':Shared} (h:SP (X.Zi7 E) pins D f s'):SP X pins D f s':=by
 cases f with
 |next=>obtain⟨σ',H',I,q⟩:=h;exact⟨σ',H',I.Zd9,q⟩
 |brk=>obtain⟨σ',H',I,q⟩:=h;exact⟨σ',H',I.Zd9,q⟩
 |cont=>obtain⟨σ',H',I,q⟩:=h;exact⟨σ',H',I.Zd9,q⟩
 |ret u=>obtain⟨v,σ',H',I,r,q⟩:=h;exact⟨v,σ',H',I.Zd9,r,q⟩
end
section
variable {X:Cx}{st:Stmt}{rest:List Stmt}{t u:TS}{e:Expr}{te:TE}{pos:Pos}
noncomputable def tNext:TS:=λD σ H=>D.nx σ H
noncomputable def tSeq (t u:TS):TS:=λD σ H=>t {D with nx:=u D} σ H
theorem Zw:PSs X [] tNext:=λ_ _ σ H _ I h=>wpAny_execs_nil ⟨σ,H,I,h⟩
theorem Zd (h1:PS X st t) (h2:PSs X rest u):PSs X (st::rest) (tSeq t u):=by
 intro pins s σ H D I h
 refine wpAny_execs_cons (thn (h1 pins s σ H {D with nx:=u D} I h) λf s1 q=>?_)
 cases f with
 |next =>
  obtain⟨σ',H',I',q⟩:=q
  exact h2 pins s1 σ' H' D I' q
 |ret v=>exact q
 |brk=>exact q
 |cont=>exact q
theorem Zf (h1:PS X st t):PSs X [st] t:=by
 intro pins s σ H D I h
 refine wpAny_execs_cons (thn (h1 pins s σ H D I h) λf s1 q=>?_)
 cases f with
 |next=>exact wpAny_execs_nil q
 |ret v=>exact q
 |brk=>exact q
 |cont=>exact q
theorem Inv.quiet {pins:List (Addr×Obj)}{σ:St}{H:Hp}{s:Shared} (I:Inv X pins σ H s):interactive X.env=false:=by simp[interactive,I.ok.kind]
noncomputable def tDrop (te:TE):TS:=λD σ H=>te σ H λ_ H1=>D.nx σ H1
theorem Z4 (he:PE X e te) (hs:swapsWith e none pos.line X.env=pure false:=by rfl):PS X (.Expr e pos) (tDrop te):=by
 intro pins s σ H D I h
 exact wpAny_Expr_any (thn (he pins s σ H _ I h) λv s1 ⟨x,H1,I1,r1,q1⟩=>⟨σ,H1,I1,q1⟩) I.quiet hs
noncomputable def tRet (te:TE):TS:=λD σ H=>te σ H D.rt
theorem Zu (he:PE X e te):PS X (.Return (some e) pos) (tRet te):=by
 intro pins s σ H D I h
 exact wpAny_Return_some (thn (he pins s σ H _ I h) λv s1 ⟨x,H1,I1,r1,q1⟩=>⟨x,σ,H1,I1,r1,q1⟩)
noncomputable def tIfS (c:TT) (t u:TS):TS:=λD σ H=>c σ H λb H1=>if b=true then t D σ H1 else u D σ H1
theorem ZK {c:Expr}{a b:List Stmt}{tc:TT} (hc:PT X c tc) (ha:PSs X a t) (hb:PSs X b u):PS X (.If c a b pos) (tIfS tc t u):=by
 intro pins s σ H D I h
 refine wpAny_If (thn (hc pins s σ H _ I h) λd s1 ⟨H1,I1,q1⟩=>?_)
 cases d with
 |true=>exact ha pins s1 σ H1 D I1 q1
 |false=>exact hb pins s1 σ H1 D I1 q1
end
noncomputable abbrev TG:=V->St->Hp->(St->Hp->Prop)->Prop
noncomputable abbrev TGs:=List V->St->Hp->(St->Hp->Prop)->Prop
noncomputable def PG (X:Cx) (target:Expr) (t:TG):Prop :=
 ∀(pins:List (Addr×Obj)) (s:Shared) (σ:St) (H:Hp) (v:V) (u:Value) (Q:St->Hp->Prop),Inv X pins σ H s->RelV v u->t v σ H Q ->
  wpAny (model X.prog X.w) X.A (assign target X.env u) (λ_ s'=>∃σ' H',Inv X pins σ' H' s'/\Q σ' H') X.xe s
noncomputable def PGs (X:Cx) (ts:List Expr) (t:TGs):Prop :=
 ∀(pins:List (Addr×Obj)) (s:Shared) (σ:St) (H:Hp) (vs:List V) (us:List Value) (Q:St->Hp->Prop),Inv X pins σ H s->Vals vs us->t vs σ H Q ->
  wpAny (model X.prog X.w) X.A (assignInOrder ((assignEach ts X.env).map (·.2)) us) (λ_ s'=>∃σ' H',Inv X pins σ' H' s'/\Q σ' H') X.xe s
noncomputable abbrev TSet:=V->V->V->Hp->(Hp->Prop)->Prop
noncomputable def PSet (X:Cx) (t:TSet):Prop :=
 ∀(pins:List (Addr×Obj)) (s:Shared) (σ:St) (H:Hp) (o i v:V) (ov iv u:Value) (Q:Hp->Prop),Inv X pins σ H s->RelV o ov->RelV i iv->RelV v u->t o i v H Q ->
  wpAny (model X.prog X.w) X.A (setItem ov iv u) (λ_ s'=>∃H',Inv X pins σ H' s'/\Q H') X.xe s
noncomputable abbrev TIp:=V->V->Hp->VK->Prop
noncomputable def PIp (X:Cx) (op:Operator) (t:TIp):Prop :=
 ∀(pins:List (Addr×Obj)) (s:Shared) (σ:St) (H:Hp) (x y:V) (v u:Value) (Q:VK),Inv X pins σ H s->RelV x v->RelV y u->t x y H Q ->
  wpAny (model X.prog X.w) X.A (inplaceOp op v u) (EP X pins σ Q) X.xe s
section
variable {X:Cx}{pos:Pos}
noncomputable def gName (i:Nat):TG:=λv σ H Q=>Q (σ.set i (some v)) H
theorem Zv {i:Nat}{x:Str} (hN:X.N.Nodup) (hi:X.N[i]?=some x) (hx:Loc X.env.scope x) (hf:X.fn x=true\/X.env.scope.names.lookup x=some .local:=by first|exact .inl rfl|exact .inr rfl|assumption):PG X (.Name x pos) (gName i):=by
 intro pins s σ H v u Q I r h
 exact wpAny_assign_Name (Zd7 I hN hi hx r (λs' I'=>⟨_,H,I',h⟩) hf)
noncomputable def gNil:TGs:=λvs σ H Q=>vs=[]/\Q σ H
noncomputable def gCons (t:TG) (u:TGs):TGs:=λvs σ H Q=>∃v r,vs=v::r/\t v σ H fun σ' H'=>u r σ' H' Q
theorem Zb3:PGs X [] gNil:=by
 intro pins s σ H vs us Q I r h
 obtain⟨e,h⟩:=h
 subst e
 cases r
 exact assignInOrder_nil ⟨σ,H,I,h⟩
theorem ZW {e:Expr}{es:List Expr}{t:TG}{u:TGs} (h1:PG X e t) (h2:PGs X es u)
  (hs:(assignEach (e::es) X.env).map (·.2)=assign e X.env::(assignEach es X.env).map (·.2):=by rfl):PGs X (e::es) (gCons t u):=by
 intro pins s σ H vs us Q I r h
 obtain⟨v,vr,e1,h⟩:=h
 subst e1
 cases r with
 |cons r rr =>
  rw[hs]
  refine assignInOrder_cons (thn (h1 pins s σ H _ _ _ I r h) λ_ s1 ⟨σ1,H1,I1,q1⟩=>?_)
  exact h2 pins s1 σ1 H1 _ _ Q I1 rr q1
noncomputable def gTup (K:PySem.W.Frag) (n:Nat) (t:TGs):TG:=λv σ H Q=>∃a xs,v=.ref a/\SqT K H a xs/\xs.length=n/\t xs σ H Q
theorem ZfD {es:List Expr}{k:Nat}{t:TGs}{n:Nat} (hc:X.calm=true) (h:PGs X es t)
  (hn:(assignEach es X.env).length=n:=by rfl) (hst:(assignEach es X.env).findIdx? (·.1)=none:=by rfl):PG X (.Tuple es k pos) (gTup X.K n t):=by
 intro pins s σ H v u Q I r hw
 obtain⟨a,xs,e1,hq,hl,hw⟩:=hw
 subst e1
 cases r
 obtain⟨its,rv,ht,hz⟩:=I.tuple hq
 refine assign_Tuple_tuple (I.ok.hd hc) ht (by simp[hn,<-hl,rv.length]) hst λh' hx=>?_
 have I1:Inv X pins σ H {s with heap:=h'}:=I.kept (t':=s.toks) λb o e=>hx b o (Yk (Yj e)) e
 exact h pins _ σ H xs _ Q I1 (by simpa using rv) hw
noncomputable def gSub (to ti:TE) (t:TSet):TG:=λv σ H Q=>to σ H λo H1=>ti σ H1 λi H2=>t o i v H2 λH3=>Q σ H3
theorem ZcU {o i:Expr}{to ti:TE}{t:TSet} (ho:PE X o to) (hi:PE X i ti) (hs:PSet X t)
  (ha:∀v,assign (.Subscript o i pos) X.env v=(do
   let ov <-holding [v] (eval o X.env)
   let iv <-holding [v,ov] (eval i X.env)
   standAt pos
   holding [v,ov,iv] (setItem ov iv v)
   release [v,ov,iv] []):=by intro _;rfl):PG X (.Subscript o i pos) (gSub to ti t):=by
 intro pins s σ H v u Q I r h
 rw[ha]
 refine Ya (wpAny_holding (thn (ho pins s σ H _ I h) λov s1 ⟨x,H1,I1,r1,q1⟩=>?_))
 refine Ya (wpAny_holding (thn (hi pins s1 σ H1 _ I1 q1) λiv s2 ⟨y,H2,I2,r2,q2⟩=>?_))
 refine Ya (wpAny_standAt (Ya (wpAny_holding (thn (hs pins s2 σ H2 x y v ov iv u _ I2 r1 r2 r q2) λ_ s3 ⟨H3,I3,q3⟩=>?_))))
 exact wpAny_release ⟨σ,H3,I3,q3⟩
noncomputable def tAsg (te:TE) (g:TG):TS:=λD σ H=>te σ H λx H1=>g x σ H1 D.nx
theorem Zbx {tg e:Expr}{te:TE}{g:TG} (he:PE X e te) (hg:PG X tg g) (hs:swapsWithSole [tg] e pos.line X.env=pure false:=by rfl) (hw:swappedStores [tg] e X.env=pure none:=by rfl)
  (h1:(assignEach [tg] X.env).map (·.2)=[assign tg X.env]:=by rfl):PS X (.Assign [tg] e pos) (tAsg te g):=by
 intro pins s σ H D I h
 refine wpAny_Assign_stores (thn (he pins s σ H _ I h) λv s1 ⟨x,H1,I1,r1,q1⟩=>?_) hs hw
 rw[h1]
 exact thn (hg pins s1 σ H1 x v _ I1 r1 q1) λ_ s2 q=>q
theorem Zm {i:Nat}{x:Str}{e:Expr}{te:TE}{pos':Pos} (hN:X.N.Nodup) (hi:X.N[i]?=some x) (hx:Loc X.env.scope x) (he:PE X e te) (hs:swapsWith e (some (.Name x pos')) pos.line X.env=pure false:=by rfl) (hf:X.fn x=true\/X.env.scope.names.lookup x=some .local:=by first|exact .inl rfl|exact .inr rfl|assumption) :
  PS X (.Assign [.Name x pos'] e pos) (tAsg te (gName i)):=by
 intro pins s σ H D I h
 refine wpAny_Assign_Name (thn (he pins s σ H _ I h) λv s1 ⟨y,H1,I1,r1,q1⟩=>?_) hs
 exact Zd7 I1 hN hi hx r1 (λs2 I2=>⟨_,H1,I2,q1⟩) hf
noncomputable def tAug (i:Nat) (te:TE) (ti:TIp):TS:=λD σ H=>∃x,σ[i]?=some (some x)/\te σ H λy H1=>ti x y H1 λz H2=>D.nx (σ.set i (some z)) H2
theorem ZfE {i:Nat}{x:Str}{e:Expr}{te:TE}{op:Operator}{ti:TIp}{pos':Pos} (hN:X.N.Nodup) (hi:X.N[i]?=some x) (hx:Loc X.env.scope x) (he:PE X e te) (ho:PIp X op ti) (hf:X.fn x=true\/X.env.scope.names.lookup x=some .local:=by first|exact .inl rfl|exact .inr rfl|assumption) :
  PS X (.AugAssign (.Name x pos') op e pos) (tAug i te ti):=by
 intro pins s σ H D I h
 obtain⟨v,e1,h⟩:=h
 obtain⟨m,hn,hl⟩:=I.loc
 have vis:Vis X.env.scope x:=by rcases hx with k|k;exact .inl k;exact .inr (.inl k)
 obtain⟨u,r,l⟩:=hl i x v hi e1 vis
 refine wpAny_AugAssign_Name ?_
 have go:wpAny (model X.prog X.w) X.A (eval e X.env) (λw s₂=>wpAny (model X.prog X.w) X.A (inplaceOp op u w) (λr s₃=>wpAny (model X.prog X.w) X.A (storeName X.env x r) (λ_=>SP X pins D .next) X.xe s₃) X.xe s₂) X.xe s:=by
  refine thn (he pins s σ H _ I h) λw s1 ⟨y,H1,I1,r1,q1⟩=>?_
  refine thn (ho pins s1 σ H1 v y u w _ I1 r r1 q1) λz s2 ⟨zv,H2,I2,r2,q2⟩=>?_
  exact Zd7 I2 hN hi hx r2 (λs3 I3=>⟨_,H2,I3,q2⟩) hf
 rcases l with⟨hk,hm⟩|⟨hk,c,hc,hcell⟩
 ·exact wpAny_loadName_local I.ok.kind hk hn hm go
 ·rcases hk with hk|hk
  ·exact wpAny_loadName_cell I.ok.kind hk hc hcell go
  ·rcases hx with k|k
   ·have:X.env.scope.names.lookup x=some .free:=hk
    rw[k]at this;cases this
   ·have:X.env.scope.names.lookup x=some .free:=hk
    rw[k]at this;cases this
noncomputable def ipI (f:Int->Int->Int):TIp:=λx y H Q=>∃i j,x=.int i/\y=.int j/\Q (.int (f i j)) H
theorem ZlU:PIp X .Add (ipI λi j=>i+j):=by
 intro pins s σ H x y v u Q I r1 r2 h
 obtain⟨i,j,e1,e2,q⟩:=h
 subst e1;subst e2
 obtain⟨t,rfl⟩:=r1
 obtain⟨t',rfl⟩:=r2
 exact iadd_int ⟨.int _,H,I.tok _,⟨_,rfl⟩,q⟩
theorem ZoN:PIp X .Sub (ipI λi j=>i-j):=by
 intro pins s σ H x y v u Q I r1 r2 h
 obtain⟨i,j,e1,e2,q⟩:=h
 subst e1;subst e2
 obtain⟨t,rfl⟩:=r1
 obtain⟨t',rfl⟩:=r2
 exact isub_int ⟨.int _,H,I.tok _,⟨_,rfl⟩,q⟩
end
section
variable {X:Cx}{pos:Pos}
noncomputable def ZlV (c:TT) (tb:TS):TS:=λD σ H=>∃W:Nat->St->Hp->Prop,(∃m,W m σ H)/\∀m σ H,W m σ H ->
 c σ H λb H1=>if b=true then ∃N:St->Hp->Prop,(∀σ' H',N σ' H'->∃m',m'<m/\W m' σ' H')/\tb {D with nx:=N,ct:=N,bk:=D.nx} σ H1 else D.nx σ H1
theorem Zf3 {c:Expr}{body:List Stmt}{tc:TT}{tb:TS} (hp:PassesOwn (model X.prog X.w) X.A X.env X.xe) (hc:PT X c tc) (hb:PSs X body tb):PS X (.While c body [] pos) (ZlV tc tb):=by
 intro pins s σ H D I h
 obtain⟨W,⟨m0,w0⟩,turn⟩:=h
 refine wpAny_While (codeAny_whileLoop (λn s'=>∃σ' H',Inv X pins σ' H' s'/\W n σ' H') ?_ m0 ⟨σ,H,I,w0⟩)
 rintro n s1 ⟨σ1,H1,I1,w1⟩
 refine wpAny_passesOwn hp (thn (hc pins s1 σ1 H1 _ I1 (turn n σ1 H1 w1)) λb s2 ⟨H2,I2,q2⟩=>?_)
 cases b with
 |true =>
  obtain⟨N,hN,q2⟩:=q2
  rw[Yc rfl]
  refine wpAny_passesOwn hp (thn (hb pins s2 σ1 H2 _ I2 q2) λf s3 q3=>?_)
  cases f with
  |next =>
   obtain⟨σ3,H3,I3,n3⟩:=q3
   obtain⟨m',hm,w3⟩:=hN σ3 H3 n3
   exact⟨m',hm,σ3,H3,I3,w3⟩
  |cont =>
   obtain⟨σ3,H3,I3,n3⟩:=q3
   obtain⟨m',hm,w3⟩:=hN σ3 H3 n3
   exact⟨m',hm,σ3,H3,I3,w3⟩
  |brk=>exact q3
  |ret v=>exact q3
 |false =>
  rw[Yb Yw]
  exact wpAny_execs_nil ⟨σ1,H2,I2,q2⟩
end
structure It where
 go:Nat->Hp->Prop
 yld:Nat->Hp->V->Hp->Prop
 stop:Nat->Hp->Prop
noncomputable def FpOk (X:Cx) (pins:List (Addr×Obj)) (H:Hp) (b:Addr):Prop :=
 H b=none/\b≠X.env.locals/\b∉X.fs/\(b∈X.ex\/X.s₀.heap.objs.size<=b)/\(∀x c,X.env.cells.lookup x=some c->c≠b)/\∀p∈X.pn++pins,p.1≠b
theorem Inv.Zh4 {X:Cx}{pins:List (Addr×Obj)}{σ:St}{H H':Hp}{s:Shared}{b:Addr} (I:Inv X pins σ H s) (hb:s.heap.objs.size<=b) (hn:H' b=none):FpOk X pins H' b:=by
 refine⟨hn,Nat.ne_of_gt (Ys I.lt hb),I.nofs hb,.inr (Yf I.sz hb),λx c e z=>?_,λp hp z=>?_⟩
 ·obtain⟨v,q⟩:=I.cell x c e
  exact absurd (Ys q.lt (by rw[z];exact hb)) (YA _)
 ·exact absurd (Ys (Yj (I.pin p hp).1) (by rw[z];exact hb)) (YA _)
structure Turn (P:Program) (w:World) (K:PySem.W.Frag) (tg:Expr) (J:It) (fp:List Addr) (it:Addr) (tn:Nat->Heap->Prop):Prop where
 mem:it∈fp
 obj:∀i h,tn i h->∀b∈fp,∃o,h.get? b=some o/\∀v,o.data≠.cell v
 keep:∀i h h',tn i h->(∀b∈fp,∀o,h.get? b=some o->h'.get? b=some o)->tn i h'
 item:∀(X:Cx),X.prog=P->X.w=w->X.K=K->X.calm=true->∀(i:Nat) (pins:List (Addr×Obj)) (s:Shared) (σ:St) (H:Hp) (E:Value->Shared->Prop),Inv X pins σ H s->(∀b∈fp,FpOk X pins H b)->tn i s.heap->J.go i H ->
  wpAny (model P w) X.A (pyNext (.ref it)) (λr s1=>∃u,r=some u /\
   wpAny (model P w) X.A (letOwnedTupleGo tg (.ref it) u) (λ_ s2=>∃x H',Inv X pins σ H' s2/\RelV x u/\J.yld i H x H'/\tn (i+1) s2.heap/\∀b∈fp,H' b=none) E s1) E s
 done:∀(X:Cx),X.prog=P->X.w=w->X.K=K->X.calm=true->∀(i:Nat) (pins:List (Addr×Obj)) (s:Shared) (σ:St) (H:Hp) (E:Value->Shared->Prop),Inv X pins σ H s->(∀b∈fp,FpOk X pins H b)->tn i s.heap->J.stop i H ->
  wpAny (model P w) X.A (pyNext (.ref it)) (λr s1=>r=none/\Inv X pins σ H s1) E s
 self:∀(A:Around) (i:Nat) (s:Shared) (Q:Value->Shared->Prop) (E:Value->Shared->Prop),tn i s.heap->Q (.ref it) s->wpAny (model P w) A (pyIter (.ref it)) Q E s
noncomputable abbrev TI:=St->Hp->(It->Hp->Prop)->Prop
noncomputable def PIE (X:Cx) (pins:List (Addr×Obj)) (σ:St) (tg:Expr) (R:It->Hp->Prop) (itv:Value) (s2:Shared):Prop :=
 ∃(it:Addr) (fp:List Addr) (tn:Nat->Heap->Prop) (J:It) (H':Hp),itv=.ref it/\Inv X pins σ H' s2/\Turn X.prog X.w X.K tg J fp it tn/\tn 0 s2.heap/\(∀b∈fp,FpOk X pins H' b)/\R J H'
noncomputable def PI (X:Cx) (tg iter:Expr) (wi:TI):Prop :=
 ∀(pins:List (Addr×Obj)) (s:Shared) (σ:St) (H:Hp) (R:It->Hp->Prop),Inv X pins σ H s->wi σ H R ->
  wpAny (model X.prog X.w) X.A (eval iter X.env) (λv s1=>wpAny (model X.prog X.w) X.A (pyIter v) (PIE X pins σ tg R) X.xe s1) X.xe s
theorem ZmG {M : Model} {A : Around} {E : Value → Shared → Prop} {s : Shared} {tg : Expr} {it : Addr} {u : Value} {o : Obj} {n : String} {vs : Array Value} {Q : Unit → Shared → Prop} (ho : s.heap.get? it = some o) (hc : o.cls = .type n) (hd : o.data = .fields vs)
    (hn : ["enumerate", "zip", "dict_itemiterator", "dict_reverseitemiterator", "odict_iterator", "itertools.zip_longest", "itertools.pairwise"].contains n = false) (hQ : Q () s) : wpAny M A (letOwnedTupleGo tg (.ref it) u) Q E s := by
  unfold letOwnedTupleGo
  cases tg <;> first
    | exact Ye hQ
    | (cases u <;> first
        | exact Ye hQ
        | (refine Ya (wpAny_load ho ?_)
           rw [hc, hd]
           show wpAny M A (if (["enumerate", "zip", "dict_itemiterator", "dict_reverseitemiterator", "odict_iterator", "itertools.zip_longest", "itertools.pairwise"].contains n && vs[0]? == some (rawInt _)) = true then _ else _) Q E s
           rw [Yb (by intro h; rw [hn, Bool.false_and] at h; cases h)]
           exact Ye hQ))
noncomputable def Itl (K:PySem.W.Frag) (a:Addr):It :=
 ⟨λi H=>∃xs x,SqL K H a xs/\xs[i]?=some x,λi H x H'=>H'=H/\∀xs,SqL K H a xs->xs[i]?=some x,λi H=>∃xs,SqL K H a xs/\xs.length<=i⟩
noncomputable def Itt (K:PySem.W.Frag) (a:Addr):It :=
 ⟨λi H=>∃xs x,SqT K H a xs/\xs[i]?=some x,λi H x H'=>H'=H/\∀xs,SqT K H a xs->xs[i]?=some x,λi H=>∃xs,SqT K H a xs/\xs.length<=i⟩
noncomputable def Itr (lo:Int) (n:Nat):It:=⟨λi _=>i<n,λi H x H'=>H'=H/\x=.int (lo+i),λi _=>n<=i⟩
theorem Zjs {P:Program}{w:World}{K:PySem.W.Frag}{tg:Expr} (a it:Addr):Turn P w K tg (Itl K a) [it] it (λi h=>h.IsListIter it a i) where
 mem:=by simp
 obj:=λi h st b hb=>by
  have e:b=it:=by simpa using hb
  subst e
  obtain⟨o,e,c,d⟩:=st
  exact⟨o,e,λv z=>by rw[d]at z;cases z⟩
 keep:=λi h h' st k=>st.at λo e=>k it (by simp) o e
 item:=by
  intro X hP hw hK hc i pins s σ H E I hf st hg
  subst hP hw hK
  obtain⟨xs,x,hq,hx⟩:=hg
  obtain⟨its,rv,p,hz⟩:=I.list hq
  obtain⟨u,hu,ru⟩:=rv.get hx
  obtain⟨f0,f1,f2,f3,f4,f5⟩:=hf it (by simp)
  refine wpAny_pyNext_list_item st p.isList (x:=u) (by simpa using hu) λh' st' sb=>?_
  have I1:Inv X pins σ H {s with heap:=h'}:=I.turned (t':=s.toks) (λb o hb e=>(sb.2 b hb).trans e) f0 f1 f3 f4 f5
  obtain⟨o,e,c,d⟩:=id st'
  exact⟨u,rfl,ZmG (s:={s with heap:=h'}) e c d (by decide) ⟨x,H,I1,ru,⟨rfl,λys hy=>by rw[I.Zde hy hq];exact hx⟩,st',λb hb=>(hf b hb).1⟩⟩
 done:=by
  intro X hP hw hK hc i pins s σ H E I hf st hg
  subst hP hw hK
  obtain⟨xs,hq,hx⟩:=hg
  obtain⟨its,rv,p,hz⟩:=I.list hq
  obtain⟨f0,f1,f2,f3,f4,f5⟩:=hf it (by simp)
  have hl:=rv.length
  exact wpAny_pyNext_list_end (I.ok.hd hc) st p.isList (by simp;omega) λh' eb=>⟨rfl,I.turned (t':=s.toks) (λb o hb e=>eb b o hb e) f0 f1 f3 f4 f5⟩
 self:=λ_ _ _ _ _ st h=>wpAny_pyIter_listiter st h
theorem Zh5 {P:Program}{w:World}{K:PySem.W.Frag}{tg:Expr} (a it:Addr):Turn P w K tg (Itt K a) [it] it (λi h=>h.IsTupleIter it a i) where
 mem:=by simp
 obj:=λi h st b hb=>by
  have e:b=it:=by simpa using hb
  subst e
  obtain⟨o,e,c,d⟩:=st
  exact⟨o,e,λv z=>by rw[d]at z;cases z⟩
 keep:=λi h h' st k=>st.at λo e=>k it (by simp) o e
 item:=by
  intro X hP hw hK hc i pins s σ H E I hf st hg
  subst hP hw hK
  obtain⟨xs,x,hq,hx⟩:=hg
  obtain⟨its,rv,p,hz⟩:=I.tuple hq
  obtain⟨u,hu,ru⟩:=rv.get hx
  obtain⟨f0,f1,f2,f3,f4,f5⟩:=hf it (by simp)
  refine wpAny_pyNext_tuple_item st (show s.heap.IsTuple a its.toArray from p) (x:=u) (by simpa using hu) λh' st' sb=>?_
  have I1:Inv X pins σ H {s with heap:=h'}:=I.turned (t':=s.toks) (λb o hb e=>(sb.2 b hb).trans e) f0 f1 f3 f4 f5
  obtain⟨o,e,c,d⟩:=id st'
  exact⟨u,rfl,ZmG (s:={s with heap:=h'}) e c d (by decide) ⟨x,H,I1,ru,⟨rfl,λys hy=>by rw[I.ZgH hy hq];exact hx⟩,st',λb hb=>(hf b hb).1⟩⟩
 done:=by
  intro X hP hw hK hc i pins s σ H E I hf st hg
  subst hP hw hK
  obtain⟨xs,hq,hx⟩:=hg
  obtain⟨its,rv,p,hz⟩:=I.tuple hq
  obtain⟨f0,f1,f2,f3,f4,f5⟩:=hf it (by simp)
  have hl:=rv.length
  exact wpAny_pyNext_tuple_end (I.ok.hd hc) st (show s.heap.IsTuple a its.toArray from p) (by simp;omega) λh' eb=>⟨rfl,I.turned (t':=s.toks) (λb o hb e=>eb b o hb e) f0 f1 f3 f4 f5⟩
 self:=λ_ _ _ _ _ st h=>wpAny_pyIter_tupleiter st h
theorem ZlW {P:Program}{w:World}{K:PySem.W.Frag}{tg:Expr} (it:Addr) (lo:Int) (n:Nat):Turn P w K tg (Itr lo n) [it] it (λi h=>IsRangeIter h it (lo+(i:Nat)*1) ((n:Int)-(i:Nat)) 1) where
 mem:=by simp
 obj:=λi h st b hb=>by
  have e:b=it:=by simpa using hb
  subst e
  exact⟨_,st,λv z=>by
   have z':Data.fields _=Data.cell v:=z
   cases z'⟩
 keep:=λi h h' st k=>k it (by simp) _ st
 item:=by
  intro X hP hw hK hc i pins s σ H E I hf st hg
  subst hP hw hK
  obtain⟨f0,f1,f2,f3,f4,f5⟩:=hf it (by simp)
  have W:=Walks.range (prog:=X.prog) (w:=X.w) (I.ok.hd hc) it lo 1 n
  refine W.item i s _ _ hg st λv h' tk hv st' kk=>?_
  obtain⟨t,rfl⟩:=hv
  have I1:Inv X pins σ H {s with heap:=h',toks:=tk}:=I.turned (λb o hb e=>kk b o (by simpa using hb) e) f0 f1 f3 f4 f5
  refine⟨_,rfl,ZmG (s:={s with heap:=h',toks:=tk}) (n:="range_iterator") st' rfl rfl (by decide) ⟨.int (lo+i),H,I1,⟨t,?_⟩,⟨rfl,rfl⟩,st',λb hb=>(hf b hb).1⟩⟩
  rw[Int.mul_one]
 done:=by
  intro X hP hw hK hc i pins s σ H E I hf st hg
  subst hP hw hK
  obtain⟨f0,f1,f2,f3,f4,f5⟩:=hf it (by simp)
  exact wpAny_pyNext_range_end (I.ok.hd hc) st (by have:n<=i:=hg;omega) λh' eb=>⟨rfl,I.turned (t':=s.toks) (λb o hb e=>eb b o hb e) f0 f1 f3 f4 f5⟩
 self:=λ_ _ _ _ _ st h=>wpAny_pyIter_rangeiter st h
section
variable {X:Cx}{tg:Expr}
noncomputable def iList (K:PySem.W.Frag) (tl:TE):TI:=fun σ H R=>tl σ H λx H1=>∃a,x=.ref a/\(∃xs,SqL K H1 a xs)/\R (Itl K a) H1
noncomputable def iTup (K:PySem.W.Frag) (tl:TE):TI:=fun σ H R=>tl σ H λx H1=>∃a,x=.ref a/\(∃xs,SqT K H1 a xs)/\R (Itt K a) H1
theorem Zds {l:Expr}{tl:TE} (hl:PE X l tl):PI X tg l (iList X.K tl):=by
 intro pins s σ H R I h
 refine thn (hl pins s σ H _ I h) λv s1 ⟨x,H1,I1,r1,q1⟩=>?_
 obtain⟨a,e,⟨xs,hq⟩,q⟩:=q1
 subst e
 cases r1
 obtain⟨its,rv,p,hz⟩:=I1.list hq
 refine wpAny_pyIter_list p.isList ?_
 refine⟨s1.heap.objs.size,[s1.heap.objs.size],_,_,H1,rfl,I1.kept (t':=s1.toks) λb o e=>Yg _ e,Zjs a _,⟨_,Ym _ rfl,rfl,rfl⟩,λb hb=>?_,q⟩
 have e:b=s1.heap.objs.size:=by simpa using hb
 subst e
 exact I1.Zh4 (Yd _) (I1.hok.fresh (Yd _))
theorem ZlX {l:Expr}{tl:TE} (hl:PE X l tl):PI X tg l (iTup X.K tl):=by
 intro pins s σ H R I h
 refine thn (hl pins s σ H _ I h) λv s1 ⟨x,H1,I1,r1,q1⟩=>?_
 obtain⟨a,e,⟨xs,hq⟩,q⟩:=q1
 subst e
 cases r1
 obtain⟨its,rv,p,hz⟩:=I1.tuple hq
 refine wpAny_pyIter_tuple (show s1.heap.IsTuple a its.toArray from p) ?_
 refine⟨s1.heap.objs.size,[s1.heap.objs.size],_,_,H1,rfl,I1.kept (t':=s1.toks) λb o e=>Yg _ e,Zh5 a _,⟨_,Ym _ rfl,rfl,rfl⟩,λb hb=>?_,q⟩
 have e:b=s1.heap.objs.size:=by simpa using hb
 subst e
 exact I1.Zh4 (Yd _) (I1.hok.fresh (Yd _))
theorem ZkR {pins:List (Addr×Obj)}{σ:St}{H:Hp}{s:Shared}{R:It->Hp->Prop}{E:Value->Shared->Prop}{lo hi:Int}{t u v:Tok}{tk:Nat} (I:Inv X pins σ H s) (h1:-(2 ^ 62)<=lo) (h2:lo<2 ^ 62) (h3:-(2 ^ 62)<=hi) (h4:hi<2 ^ 62)
  (q:R (Itr lo (hi-lo).toNat) H):wpAny (model X.prog X.w) X.A (pyIter (.ref s.heap.objs.size)) (PIE X pins σ tg R) E {s with heap:=s.heap.push {cls:=.type "range",data:=.fields #[.int lo t,.int hi u,.int 1 v]},toks:=tk}:=by
 refine wpAny_pyIter_range (IsRange.new ..) (small_one h1 h2 h3 h4) ?_
 have I1:Inv X pins σ H {s with heap:=s.heap.push {cls:=.type "range",data:=.fields #[.int lo t,.int hi u,.int 1 v]},toks:=tk}:=I.kept λb o e=>Yg _ e
 refine⟨(s.heap.push {cls:=.type "range",data:=.fields #[.int lo t,.int hi u,.int 1 v]}).objs.size,[(s.heap.push {cls:=.type "range",data:=.fields #[.int lo t,.int hi u,.int 1 v]}).objs.size],_,_,H,rfl,
  I1.kept (t':=tk) λb o e=>Yg _ e,ZlW _ lo (hi-lo).toNat,?_,λb hb=>?_,q⟩
 ·have e1:lo+((0:Nat):Int)*1=lo:=by simp
  have e2:(((hi-lo).toNat:Nat):Int)-((0:Nat):Int)=Builtin.Range.rangeSize lo hi 1:=by rw[rangeSize_one];split<;>omega
  show IsRangeIter _ _ (lo+((0:Nat):Int)*1) ((((hi-lo).toNat:Nat):Int)-((0:Nat):Int)) 1
  rw[e1,e2]
  exact Ym _ rfl
 ·have e:b=(s.heap.push {cls:=.type "range",data:=.fields #[.int lo t,.int hi u,.int 1 v]}).objs.size:=by simpa using hb
  subst e
  exact I1.Zh4 (Yd _) (I1.hok.fresh (Yd _))
noncomputable def iRng1 (ta:TA):TI:=fun σ H R=>ta σ H λvs H1=>∃j:Int,vs=[.int j]/\-(2 ^ 62)<=j/\j<2 ^ 62/\R (Itr 0 j.toNat) H1
noncomputable def iRng2 (ta:TA):TI:=fun σ H R=>ta σ H λvs H1=>∃i j:Int,vs=[.int i,.int j]/\(-(2 ^ 62)<=i/\i<2 ^ 62/\-(2 ^ 62)<=j/\j<2 ^ 62)/\R (Itr i (j-i).toNat) H1
theorem Zaa {a:Expr}{ta:TA}{p pos:Pos} (hg:Gl X "range") (hm:X.mg "range"=none) (ha:PA X [a] ta) (hs:starEach [a] X.env=[(false,eval a X.env)]:=by rfl):PI X tg (.Call (.Name "range" p) [a] [] pos) (iRng1 ta):=by
 intro pins s σ H R I h
 refine Call_ (ZaW I hg hm boot_range (PyProof.Rows.callWith_type1 (thn (ha pos pins s σ H _ I h) λus s1 ⟨vs,H1,I1,r1,q1⟩=>?_) hs rfl))
 obtain⟨j,e,q1,q2,q⟩:=q1
 subst e
 cases r1 with
 |cons r rr =>
  cases rr
  obtain⟨t,rfl⟩:=r
  exact call_range_1 (ZkR I1 (by omega) (by omega) q1 q2 (by simpa using q))
theorem Zm8 {a b:Expr}{ta:TA}{p pos:Pos} (hg:Gl X "range") (hm:X.mg "range"=none) (ha:PA X [a,b] ta) (hs:starEach [a,b] X.env=[(false,eval a X.env),(false,eval b X.env)]:=by rfl) (hs2:starEach [b] X.env=[(false,eval b X.env)]:=by rfl) :
  PI X tg (.Call (.Name "range" p) [a,b] [] pos) (iRng2 ta):=by
 intro pins s σ H R I h
 refine Call_ (ZaW I hg hm boot_range (PyProof.Rows.callWith_type1 (thn (ha pos pins s σ H _ I h) λus s1 ⟨vs,H1,I1,r1,q1⟩=>?_) (by rw[hs,hs2]) (by rw[hs2];rfl)))
 obtain⟨i,j,e,⟨q1,q2,q3,q4⟩,q⟩:=q1
 subst e
 cases r1 with
 |cons r rr =>
  cases rr with
  |cons r' rr =>
   cases rr
   obtain⟨t,rfl⟩:=r
   obtain⟨t',rfl⟩:=r'
   exact call_range_2 (ZkR I1 q1 q2 q3 q4 q)
noncomputable def tFor (wi:TI) (g:TG) (tb:TS):TS:=λD σ H=>wi σ H λJ H1=>∃W:Nat->Nat->St->Hp->Prop,(∃m,W 0 m σ H1)/\∀i m σ H,W i m σ H ->
 (J.stop i H/\D.nx σ H)\/(J.go i H/\∃N:St->Hp->Prop,(∀σ' H',N σ' H'->∃m',m'<m/\W (i+1) m' σ' H')/\∀x H',J.yld i H x H'->g x σ H' fun σ2 H2=>tb {D with nx:=N,ct:=N,bk:=D.nx} σ2 H2)
noncomputable def Zea (fp:List Addr) (h:Heap):List (Addr×Obj):=fp.filterMap λb=>(h.get? b).map λo=>(b,o)
theorem Zdt {fp:List Addr}{h:Heap}{b:Addr}{o:Obj} (hb:b∈fp) (e:h.get? b=some o):(b,o)∈Zea fp h:=List.mem_filterMap.mpr ⟨b,hb,by rw[e];rfl⟩
theorem Zjt {fp:List Addr}{h:Heap}{p:Addr×Obj} (hp:p∈Zea fp h):p.1∈fp/\h.get? p.1=some p.2:=by
 obtain⟨b,hb,e⟩:=List.mem_filterMap.mp hp
 cases q:h.get? b with
 |none=>rw[q]at e;cases e
 |some o =>
  rw[q]at e
  have e':(b,o)=p:=Yy e
  subst e'
  exact⟨hb,q⟩
theorem Inv.pinned {pins:List (Addr×Obj)}{σ:St}{H:Hp}{s:Shared}{fp:List Addr} (I:Inv X pins σ H s) (hf:∀b∈fp,FpOk X pins H b) (ho:∀b∈fp,∃o,s.heap.get? b=some o/\∀v,o.data≠.cell v):Inv X (pins++Zea fp s.heap) σ H s :=
 I.Zbh λp hp=>(YE.mp hp).elim (λz=>I.pin p (Yv _ z)) λz=>by
  obtain⟨hb,e⟩:=Zjt z
  obtain⟨f0,f1,f2,_⟩:=hf p.1 hb
  obtain⟨o,e',d⟩:=ho p.1 hb
  rw[e]at e';cases e'
  exact⟨e,f0,f1,f2,d⟩
theorem Inv.Zeb {pins pl:List (Addr×Obj)}{σ:St}{H:Hp}{s:Shared} (I:Inv X (pins++pl) σ H s):Inv X pins σ H s:=I.Zbh λp hp=>I.pin p (Yv _ (YN _ hp))
theorem ZaC {iter:Expr}{body:List Stmt}{wi:TI}{g:TG}{tb:TS}{pos:Pos} (hp:PassesOwn (model X.prog X.w) X.A X.env X.xe) (hc:X.calm=true) (hi:PI X tg iter wi) (hg:PG X tg g) (hb:PSs X body tb)
  (hs:∀x,foldedSetIterable iter X.env x=pure x:=by intro _;rfl):PS X (.For tg iter body [] pos) (tFor wi g tb):=by
 intro pins s σ H D I h
 refine wpAny_For (thn (hi pins s σ H _ I h) λv s1 h1=>thn h1 λitv s2 h2=>?_) hs
 obtain⟨it,fp,tn,J,H2,e,I2,T,st2,f2,W,⟨m0,w0⟩,turn⟩:=h2
 subst e
 -- what stays true of the iterator's objects through the loop
 have stat:∀{H':Hp},(∀b∈fp,H' b=none)->∀b∈fp,FpOk X pins H' b:=λhn b hb=>⟨hn b hb,(f2 b hb).2⟩
 refine codeAny_forLoop_any (λn s'=>∃i σ' H',Inv X pins σ' H' s'/\tn i s'.heap/\(∀b∈fp,H' b=none)/\W i n σ' H') ?_ m0 ⟨0,σ,H2,I2,st2,λb hb=>(f2 b hb).1,w0⟩
 rintro n s3 ⟨i,σ3,H3,I3,st3,fr3,w3⟩
 rcases turn i n σ3 H3 w3 with⟨stop,qn⟩|⟨go,N,hN,step⟩
 ·refine wpAny_passesOwn hp (thn (T.done X rfl rfl rfl hc i pins s3 σ3 H3 X.xe I3 (stat fr3) st3 stop) λr s4 ⟨hr,I4⟩=>?_)
  subst hr
  exact wpAny_execs_nil ⟨σ3,H3,I4,qn⟩
 ·refine wpAny_passesOwn hp (thn (T.item X rfl rfl rfl hc i pins s3 σ3 H3 X.xe I3 (stat fr3) st3 go) λr s4 ⟨u,hr,h4⟩=>?_)
  subst hr
  refine wpAny_passesOwn hp (thn h4 λ_ s5 ⟨x,H5,I5,r5,y5,st5,fr5⟩=>?_)
  have I5':=I5.pinned (stat fr5) (T.obj _ _ st5)
  refine wpAny_passesOwn hp (thn (hg _ s5 σ3 H5 x u _ I5' r5 (step x H5 y5)) λ_ s6 ⟨σ6,H6,I6,q6⟩=>?_)
  refine wpAny_passesOwn hp (thn (hb _ s6 σ6 H6 _ I6 q6) λf s7 q7=>?_)
  have again:∀{σ7:St}{H7:Hp},Inv X (pins++Zea fp s5.heap) σ7 H7 s7->N σ7 H7->∃m,m<n/\∃i σ' H',Inv X pins σ' H' s7/\tn i s7.heap/\(∀b∈fp,H' b=none)/\W i m σ' H':=λ{σ7 H7} I7 n7=>by
   obtain⟨m',hm,w7⟩:=hN σ7 H7 n7
   refine⟨m',hm,i+1,σ7,H7,I7.Zeb,T.keep _ _ _ st5 λb hb o e=>(I7.pin (b,o) (Yv _ (Yv _ (Zdt hb e)))).1,λb hb=>?_,w7⟩
   obtain⟨o,e,d⟩:=T.obj _ _ st5 b hb
   exact(I7.pin (b,o) (Yv _ (Yv _ (Zdt hb e)))).2.1
  cases f with
  |next=>obtain⟨σ7,H7,I7,n7⟩:=q7;exact again I7 n7
  |cont=>obtain⟨σ7,H7,I7,n7⟩:=q7;exact again I7 n7
  |brk=>obtain⟨σ7,H7,I7,q7⟩:=q7;exact⟨σ7,H7,I7.Zeb,q7⟩
  |ret v=>obtain⟨x7,σ7,H7,I7,r7,q7⟩:=q7;exact⟨x7,σ7,H7,I7.Zeb,r7,q7⟩
end
theorem ZkS {K:PySem.W.Frag}{a:Addr}{xs:List V}{g:TG}{tb:TS}{D:Ends}{σ:St}{H:Hp} (Pv:Nat->St->Hp->Prop) (h0:Pv 0 σ H) (hl:∀i σ H,i<=xs.length->Pv i σ H->SqL K H a xs)
  (hs:∀i x σ H,xs[i]?=some x->Pv i σ H->g x σ H fun σ2 H2=>tb {D with nx:=Pv (i+1),ct:=Pv (i+1),bk:=D.nx} σ2 H2) (hd:∀σ H,Pv xs.length σ H->D.nx σ H) :
  ∃W:Nat->Nat->St->Hp->Prop,(∃m,W 0 m σ H)/\∀i m σ H,W i m σ H ->
   ((Itl K a).stop i H/\D.nx σ H)\/((Itl K a).go i H/\∃N:St->Hp->Prop,(∀σ' H',N σ' H'->∃m',m'<m/\W (i+1) m' σ' H')/\∀x H',(Itl K a).yld i H x H'->g x σ H' fun σ2 H2=>tb {D with nx:=N,ct:=N,bk:=D.nx} σ2 H2):=by
 refine⟨λi m σ H=>m=xs.length-i/\i<=xs.length/\Pv i σ H,⟨xs.length,by simp,Yn _,h0⟩,?_⟩
 rintro i m σ H ⟨rfl,hi,p⟩
 have q:=hl i σ H hi p
 by_cases hlt:i<xs.length
 ·refine .inr ⟨⟨xs,xs[i],q,by simp[hlt]⟩,Pv (i+1),fun σ' H' p'=>⟨xs.length-(i+1),by omega,rfl,hlt,p'⟩,λx H' y=>?_⟩
  obtain⟨e,y⟩:=y
  subst e
  exact hs i x σ _ (y xs q) p
 ·have e:i=xs.length:=by omega
  subst e
  exact .inl ⟨⟨xs,q,Yd _⟩,hd σ H p⟩
theorem Za9 {lo:Int}{n:Nat}{g:TG}{tb:TS}{D:Ends}{σ:St}{H:Hp} (Pv:Nat->St->Hp->Prop) (h0:Pv 0 σ H)
  (hs:∀i σ H,i<n->Pv i σ H->g (.int (lo+i)) σ H fun σ2 H2=>tb {D with nx:=Pv (i+1),ct:=Pv (i+1),bk:=D.nx} σ2 H2) (hd:∀σ H,Pv n σ H->D.nx σ H) :
  ∃W:Nat->Nat->St->Hp->Prop,(∃m,W 0 m σ H)/\∀i m σ H,W i m σ H ->
   ((Itr lo n).stop i H/\D.nx σ H)\/((Itr lo n).go i H/\∃N:St->Hp->Prop,(∀σ' H',N σ' H'->∃m',m'<m/\W (i+1) m' σ' H')/\∀x H',(Itr lo n).yld i H x H'->g x σ H' fun σ2 H2=>tb {D with nx:=N,ct:=N,bk:=D.nx} σ2 H2):=by
 refine⟨λi m σ H=>m=n-i/\i<=n/\Pv i σ H,⟨n,by simp,Yn _,h0⟩,?_⟩
 rintro i m σ H ⟨rfl,hi,p⟩
 by_cases hlt:i<n
 ·refine .inr ⟨hlt,Pv (i+1),fun σ' H' p'=>⟨n-(i+1),by omega,rfl,hlt,p'⟩,λx H' y=>?_⟩
  obtain⟨e,y⟩:=y
  subst e y
  exact hs i σ _ hlt p
 ·have e:i=n:=by omega
  subst e
  exact .inl ⟨Yd _,hd σ H p⟩
noncomputable abbrev R2:=V->V->Hp->VK->Prop
noncomputable def OpR (X:Cx) (f:Value->Value->Sem Value) (r:R2):Prop :=
 ∀(pins:List (Addr×Obj)) (s:Shared) (σ:St) (H:Hp) (x y:V) (v u:Value) (Q:VK),Inv X pins σ H s->RelV x v->RelV y u->r x y H Q ->
  wpAny (model X.prog X.w) X.A (f v u) (EP X pins σ Q) X.xe s
noncomputable def UnR (X:Cx) (f:Value->Sem Value) (r:V->Hp->VK->Prop):Prop :=
 ∀(pins:List (Addr×Obj)) (s:Shared) (σ:St) (H:Hp) (x:V) (v:Value) (Q:VK),Inv X pins σ H s->RelV x v->r x H Q ->
  wpAny (model X.prog X.w) X.A (f v) (EP X pins σ Q) X.xe s
noncomputable def ZbL (X:Cx) (f:Value) (r:List V->Hp->VK->Prop):Prop :=
 ∀(pins:List (Addr×Obj)) (s:Shared) (σ:St) (H:Hp) (xs:List V) (us:List Value) (Q:VK),Inv X pins σ H s->Vals xs us->r xs H Q ->
  wpAny (model X.prog X.w) X.A (call f us) (EP X pins σ Q) X.xe s
noncomputable def TruR (X:Cx) (r:V->Hp->(Bool->Hp->Prop)->Prop):Prop :=
 ∀(pins:List (Addr×Obj)) (s:Shared) (σ:St) (H:Hp) (x:V) (v:Value) (Q:Bool->Hp->Prop),Inv X pins σ H s->RelV x v->r x H Q ->
  wpAny (model X.prog X.w) X.A (truthy v) (TP X pins σ Q) X.xe s
noncomputable def tOp (r:R2) (ta tb:TE):TE:=fun σ H Q=>ta σ H λx H1=>tb σ H1 λy H2=>r x y H2 Q
noncomputable def tUn (r:V->Hp->VK->Prop) (ta:TE):TE:=fun σ H Q=>ta σ H λx H1=>r x H1 Q
noncomputable def rI (C:Int->Int->Prop) (g:Int->Int->V):R2:=λx y H Q=>∃i j,x=.int i/\y=.int j/\C i j/\Q (g i j) H
noncomputable def rI0 (g:Int->Int->V):R2:=λx y H Q=>∃i j,x=.int i/\y=.int j/\Q (g i j) H
noncomputable def rU (g:Int->V):V->Hp->VK->Prop:=λx H Q=>∃i,x=.int i/\Q (g i) H
section
variable {X:Cx}{a b c:Expr}{ta tb tc:TE}{pos:Pos}
theorem binT (ha:PE X a ta) (hb:PE X b tb) {pins:List (Addr×Obj)}{s:Shared}{σ:St}{H:Hp}{R:V->V->Hp->Prop} (I:Inv X pins σ H s)
  (h:ta σ H λx H1=>tb σ H1 λy H2=>R x y H2) {Q:Value->Shared->Prop}{f:Value->Value->Sem Value}
  (hf:∀v u s2 x y H2,Inv X pins σ H2 s2->RelV x v->RelV y u->R x y H2->wpAny (model X.prog X.w) X.A (f v u) Q X.xe s2) :
  wpAny (model X.prog X.w) X.A (eval a X.env) (λv s₁=>wpAny (model X.prog X.w) X.A (eval b X.env) (λu s₂=>wpAny (model X.prog X.w) X.A (f v u) Q X.xe s₂) X.xe s₁) X.xe s:=by
 refine thn (ha pins s σ H _ I h) λv s1 ⟨x,H1,I1,r1,q1⟩=>?_
 refine thn (hb pins s1 σ H1 _ I1 q1) λu s2 ⟨y,H2,I2,r2,q2⟩=>?_
 exact hf v u s2 x y H2 I2 r1 r2 q2
theorem Zp {op:Operator}{r:R2} (ho:OpR X (binaryOp op) r) (ha:PE X a ta) (hb:PE X b tb):PE X (.BinOp a op b pos) (tOp r ta tb):=by
 intro pins s σ H Q I h
 exact wpAny_BinOp (binT ha hb I h λv u s2 x y H2 I2 rx ry q=>ho pins s2 σ H2 x y v u Q I2 rx ry q)
theorem Zbw {op:UnaryOp}{r:V->Hp->VK->Prop} (ho:UnR X (unaryOp op) r) (ha:PE X a ta):PE X (.UnaryOp op a pos) (tUn r ta):=by
 intro pins s σ H Q I h
 exact UnaryOp_ (thn (ha pins s σ H _ I h) λv s1 ⟨x,H1,I1,r1,q1⟩=>ho pins s1 σ H1 x v Q I1 r1 q1)
theorem opI {f:Value->Value->Sem Value}{C:Int->Int->Prop}{g:Int->Int->Int}
  (rule:∀(i j:Int) (t u:Tok) (s:Shared) (Q:Value->Shared->Prop) (E:Value->Shared->Prop),C i j->Q (.int (g i j) s.toks) {s with toks:=s.toks+1}->wpAny (model X.prog X.w) X.A (f (.int i t) (.int j u)) Q E s) :
  OpR X f (rI C λi j=>.int (g i j)):=by
 intro pins s σ H x y v u Q I rx ry h
 obtain⟨i,j,rfl,rfl,hc,q⟩:=h
 obtain⟨t,rfl⟩:=rx
 obtain⟨t',rfl⟩:=ry
 exact rule i j t t' s _ _ hc ⟨.int (g i j),H,I.tok _,⟨_,rfl⟩,q⟩
theorem opI0 {f:Value->Value->Sem Value}{g:Int->Int->Int}
  (rule:∀(i j:Int) (t u:Tok) (s:Shared) (Q:Value->Shared->Prop) (E:Value->Shared->Prop),Q (.int (g i j) s.toks) {s with toks:=s.toks+1}->wpAny (model X.prog X.w) X.A (f (.int i t) (.int j u)) Q E s) :
  OpR X f (rI0 λi j=>.int (g i j)):=by
 intro pins s σ H x y v u Q I rx ry h
 obtain⟨i,j,rfl,rfl,q⟩:=h
 obtain⟨t,rfl⟩:=rx
 obtain⟨t',rfl⟩:=ry
 exact rule i j t t' s _ _ ⟨.int (g i j),H,I.tok _,⟨_,rfl⟩,q⟩
theorem opB0 {f:Value->Value->Sem Value}{g:Int->Int->Bool}
  (rule:∀(i j:Int) (t u:Tok) (s:Shared) (Q:Value->Shared->Prop) (E:Value->Shared->Prop),Q (.bool (g i j)) s->wpAny (model X.prog X.w) X.A (f (.int i t) (.int j u)) Q E s) :
  OpR X f (rI0 λi j=>.bl (g i j)):=by
 intro pins s σ H x y v u Q I rx ry h
 obtain⟨i,j,rfl,rfl,q⟩:=h
 obtain⟨t,rfl⟩:=rx
 obtain⟨t',rfl⟩:=ry
 exact rule i j t t' s _ _ ⟨.bl (g i j),H,I,rfl,q⟩
noncomputable def Zh6 (i j:Int):Prop:=0<=j/\j<=1000000/\i.natAbs<2 ^ 64
theorem ZZ:OpR X (binaryOp .Add) (rI0 λi j=>.int (i+j)):=opI0 λ_ _ _ _ _ _ _ q=>add_int q
theorem Zbj:OpR X (binaryOp .Sub) (rI0 λi j=>.int (i-j)):=opI0 λ_ _ _ _ _ _ _ q=>sub_int q
theorem ZfF:OpR X (binaryOp .Mod) (rI (λ_ j=>0<j) λi j=>.int (i % j)):=opI λi j _ _ _ _ _ hc q=>by
 have h1:(0:Int)<j:=hc
 exact mod_int' (by omega) (by rw[Int.fmod_eq_emod_of_nonneg i (by omega)];exact q)
theorem Zby:OpR X (binaryOp .Pow) (rI Zh6 λi j=>.int (i ^ j.toNat)):=opI λ_ _ _ _ _ _ _ hc q=>pow_int_small hc.1 hc.2.1 hc.2.2 q
theorem unI {f:Value->Sem Value}{g:Int->Int}
  (rule:∀(i:Int) (t:Tok) (s:Shared) (Q:Value->Shared->Prop) (E:Value->Shared->Prop),Q (.int (g i) s.toks) {s with toks:=s.toks+1}->wpAny (model X.prog X.w) X.A (f (.int i t)) Q E s) :
  UnR X f (rU λi=>.int (g i)):=by
 intro pins s σ H x v Q I rx h
 obtain⟨i,rfl,q⟩:=h
 obtain⟨t,rfl⟩:=rx
 exact rule i t s _ _ ⟨.int (g i),H,I.tok _,⟨_,rfl⟩,q⟩
theorem ZaD:UnR X (unaryOp .USub) (rU λi=>.int (-i)):=unI λ_ _ _ _ _ q=>neg_int q
end
noncomputable def ZkT:V->V->Bool
 |.non,.non=>true|.non,.int _=>true|.int _,.non=>true|.non,.bl _=>true|.bl _,.non=>true|.non,.str _=>true|.str _,.non=>true
 |.int _,.int _=>true|.bl _,.bl _=>true|.str _,.str _=>true|.byt _,.byt _=>true
 |.int _,.str _=>true|.str _,.int _=>true|.bl _,.str _=>true|.str _,.bl _=>true
 |_,_=>false
noncomputable def rEq:R2:=λx y H Q=>ZkT x y=true/\Q (.bl (decide (x=y))) H
noncomputable def rNe:R2:=λx y H Q=>ZkT x y=true/\Q (.bl (!decide (x=y))) H
theorem ZmH {i j:Int}:decide (V.int i=V.int j)=(i==j):=by
 rw[Bool.eq_iff_iff]
 simp
theorem ZoO {i j:Bool}:decide (V.bl i=V.bl j)=(i==j):=by
 rw[Bool.eq_iff_iff]
 simp
theorem ZmI {i j:Str}:decide (V.str i=V.str j)=(i==j):=by
 rw[Bool.eq_iff_iff]
 simp
theorem ZmJ {i j:Array UInt8}:decide (V.byt i=V.byt j)=(i.toList==j.toList):=by
 rw[Bool.eq_iff_iff]
 cases i
 cases j
 simp
section
variable {X:Cx}{a b c:Expr}{ta tb tc:TE}{pos:Pos}
theorem ZN {pins:List (Addr×Obj)}{σ:St}{H:Hp}{s:Shared}{Q:VK}{k k':Bool} (I:Inv X pins σ H s) (q:Q (.bl k) H) (e:k=k'):EP X pins σ Q (.bool k') s:=by
 subst e
 exact⟨.bl k,H,I,rfl,q⟩
theorem ZaZ:OpR X (compareOp .Eq) rEq:=by
 intro pins s σ H x y v u Q I rx ry h
 obtain⟨hs,q⟩:=h
 cases x with
 |non =>
  cases rx
  cases y with
  |non=>cases ry;exact PySem.EqNone.eq_none_none (ZN I q (by simp))
  |bl j=>cases ry;exact PySem.EqNone.eq_none_bool (ZN I q (by simp))
  |int j=>obtain⟨t',rfl⟩:=ry;exact PySem.EqNone.eq_none_int (ZN I q (by simp))
  |str j=>obtain⟨t',rfl⟩:=ry;exact PySem.EqNone.eq_none_str (ZN I q (by simp))
  |_=>exact absurd (show false=true from hs) Yw
 |bl i =>
  cases rx
  cases y with
  |non=>cases ry;exact PySem.EqNone.eq_bool_none (ZN I q (by simp))
  |bl j=>cases ry;exact eq_bool (ZN I q ZoO)
  |str j=>obtain⟨t',rfl⟩:=ry;exact PySem.EqMixed.eq_bool_str (ZN I q (by simp))
  |_=>exact absurd (show false=true from hs) Yw
 |int i =>
  obtain⟨t,rfl⟩:=rx
  cases y with
  |non=>cases ry;exact PySem.EqNone.eq_int_none (ZN I q (by simp))
  |int j=>obtain⟨t',rfl⟩:=ry;exact eq_int (ZN I q ZmH)
  |str j=>obtain⟨t',rfl⟩:=ry;exact PySem.EqMixed.eq_int_str (ZN I q (by simp))
  |_=>exact absurd (show false=true from hs) Yw
 |str i =>
  obtain⟨t,rfl⟩:=rx
  cases y with
  |non=>cases ry;exact PySem.EqNone.eq_str_none (ZN I q (by simp))
  |bl j=>cases ry;exact PySem.EqMixed.eq_str_bool (ZN I q (by simp))
  |int j=>obtain⟨t',rfl⟩:=ry;exact PySem.EqMixed.eq_str_int (ZN I q (by simp))
  |str j=>obtain⟨t',rfl⟩:=ry;exact eq_str (ZN I q ZmI)
  |_=>exact absurd (show false=true from hs) Yw
 |byt i =>
  obtain⟨t,rfl⟩:=rx
  cases y with
  |byt j=>obtain⟨t',rfl⟩:=ry;exact PySem.W.eq_bytes (ZN I q ZmJ)
  |_=>exact absurd (show false=true from hs) Yw
 |_=>cases y<;>exact absurd (show false=true from hs) Yw
theorem ZoP:OpR X (compareOp .NotEq) rNe:=by
 intro pins s σ H x y v u Q I rx ry h
 obtain⟨hs,q⟩:=h
 cases x with
 |non =>
  cases rx
  cases y with
  |non=>cases ry;exact PySem.EqNone.ne_none_none (ZN I q (by simp))
  |bl j=>cases ry;exact PySem.EqNone.ne_none_bool (ZN I q (by simp))
  |int j=>obtain⟨t',rfl⟩:=ry;exact PySem.EqNone.ne_none_int (ZN I q (by simp))
  |str j=>obtain⟨t',rfl⟩:=ry;exact PySem.EqNone.ne_none_str (ZN I q (by simp))
  |_=>exact absurd (show false=true from hs) Yw
 |bl i =>
  cases rx
  cases y with
  |non=>cases ry;exact PySem.EqNone.ne_bool_none (ZN I q (by simp))
  |bl j=>cases ry;exact ne_bool (ZN I q (congrArg not ZoO))
  |str j=>obtain⟨t',rfl⟩:=ry;exact PySem.EqMixed.ne_bool_str (ZN I q (by simp))
  |_=>exact absurd (show false=true from hs) Yw
 |int i =>
  obtain⟨t,rfl⟩:=rx
  cases y with
  |non=>cases ry;exact PySem.EqNone.ne_int_none (ZN I q (by simp))
  |int j=>obtain⟨t',rfl⟩:=ry;exact ne_int (ZN I q (congrArg not ZmH))
  |str j=>obtain⟨t',rfl⟩:=ry;exact PySem.EqMixed.ne_int_str (ZN I q (by simp))
  |_=>exact absurd (show false=true from hs) Yw
 |str i =>
  obtain⟨t,rfl⟩:=rx
  cases y with
  |non=>cases ry;exact PySem.EqNone.ne_str_none (ZN I q (by simp))
  |bl j=>cases ry;exact PySem.EqMixed.ne_str_bool (ZN I q (by simp))
  |int j=>obtain⟨t',rfl⟩:=ry;exact PySem.EqMixed.ne_str_int (ZN I q (by simp))
  |str j=>obtain⟨t',rfl⟩:=ry;exact ne_str (ZN I q (congrArg not ZmI))
  |_=>exact absurd (show false=true from hs) Yw
 |byt i =>
  obtain⟨t,rfl⟩:=rx
  cases y with
  |byt j=>obtain⟨t',rfl⟩:=ry;exact PySem.W.ne_bytes (ZN I q (congrArg not ZmJ))
  |_=>exact absurd (show false=true from hs) Yw
 |_=>cases y<;>exact absurd (show false=true from hs) Yw
theorem Zcj:OpR X (compareOp .Lt) (rI0 λi j=>.bl (decide (i<j))):=opB0 λ_ _ _ _ _ _ _ q=>lt_int q
theorem Zec:OpR X (compareOp .LtE) (rI0 λi j=>.bl (decide (i<=j))):=opB0 λ_ _ _ _ _ _ _ q=>le_int q
theorem Zdf:OpR X (compareOp .Gt) (rI0 λi j=>.bl (decide (j<i))):=opB0 λ_ _ _ _ _ _ _ q=>gt_int q
theorem Zju:OpR X (compareOp .GtE) (rI0 λi j=>.bl (decide (j<=i))):=opB0 λ_ _ _ _ _ _ _ q=>ge_int q
theorem ZoQ:OpR X (compareOp .Is) (λx y H Q=>y=.non/\Q (.bl (decide (x=.non))) H):=by
 intro pins s σ H x y v u Q I rx ry h
 obtain⟨rfl,q⟩:=h
 cases ry
 refine is_none_gen (ZN I q ?_)
 cases x<;>first
  |(cases rx;rfl)
  |(obtain⟨t,rfl⟩:=rx;rfl)
theorem Zq4:OpR X (compareOp .IsNot) (λx y H Q=>y=.non/\Q (.bl (!decide (x=.non))) H):=by
 intro pins s σ H x y v u Q I rx ry h
 obtain⟨rfl,q⟩:=h
 cases ry
 refine isnot_none_gen (ZN I q ?_)
 cases x<;>first
  |(cases rx;rfl)
  |(obtain⟨t,rfl⟩:=rx;rfl)
theorem Zs (b:Expr) {op:CmpOp} (h:op≠.In:=by decide) (h2:op≠.NotIn:=by decide):behindInMarks op b=false:=by
 have e1:(op==CmpOp.In)=false:=by cases op<;>first|rfl|exact absurd rfl h
 have e2:(op==CmpOp.NotIn)=false:=by cases op<;>first|rfl|exact absurd rfl h2
 cases b<;>simp[behindInMarks,e1,e2]
theorem ZcG {op:CmpOp}{r:R2} (ho:OpR X (compareOp op) r) (ha:PE X a ta) (hb:PE X b tb) (hm:behindInMarks op b=false):PE X (.Compare a [op] [b] pos) (tOp r ta tb):=by
 intro pins s σ H Q I h
 exact wpAny_Compare1 (binT ha hb I h λv u s2 x y H2 I2 rx ry q=>ho pins s2 σ H2 x y v u Q I2 rx ry q) hm
noncomputable def tTest (t:TE):TT:=fun σ H Q=>t σ H λx H'=>∃k,x=.bl k/\Q k H'
theorem Zn {op:CmpOp}{r:R2} (ho:OpR X (compareOp op) r) (ha:PE X a ta) (hb:PE X b tb) (hm:behindInMarks op b=false):PT X (.Compare a [op] [b] pos) (tTest (tOp r ta tb)):=by
 intro pins s σ H Q I h
 refine wpAny_isTrue_Compare1 (thn (ha pins s σ H _ I h) λv s1 ⟨x,H1,I1,r1,q1⟩=>thn (hb pins s1 σ H1 _ I1 q1) λu s2 ⟨y,H2,I2,r2,q2⟩ =>
  thn (ho pins s2 σ H2 x y v u _ I2 r1 r2 q2) λc s3 ⟨z,H3,I3,r3,k,e,q3⟩=>?_) hm
 subst e
 cases r3
 exact wpAny_truthy_bool ⟨H3,I3,q3⟩
noncomputable def tChain (r r':R2) (ta tb tc:TE):TE:=fun σ H Q=>ta σ H λx H1=>tb σ H1 λy H2=>r x y H2 λz H3=>∃k,z=.bl k /\
 (if k=true then tc σ H3 λw' H4=>r' y w' H4 Q else Q (.bl false) H3)
theorem ZkU {op op':CmpOp}{r r':R2} (ho:OpR X (compareOp op) r) (ho':OpR X (compareOp op') r') (ha:PE X a ta) (hb:PE X b tb) (hc:PE X c tc)
  (hm:lastMarks [op,op'] [b,c]=false:=by with_unfolding_all rfl):PE X (.Compare a [op,op'] [b,c] pos) (tChain r r' ta tb tc):=by
 intro pins s σ H Q I h
 refine Compare_chain (thn (ha pins s σ H _ I h) λv s1 ⟨x,H1,I1,r1,q1⟩=>chain_link (thn (hb pins s1 σ H1 _ I1 q1) λu s2 ⟨y,H2,I2,r2,q2⟩ =>
  thn (ho pins s2 σ H2 x y v u _ I2 r1 r2 q2) λd s3 ⟨z,H3,I3,r3,k,e,q3⟩=>?_)) hm
 subst e
 cases r3
 refine wpAny_truthy_bool ?_
 cases k with
 |false=>exact ite_ff ⟨.bl false,H3,I3,rfl,q3⟩
 |true=>exact ite_tt (chain_last (thn (hc pins s3 σ H3 _ I3 q3) λw' s4 ⟨z',H4,I4,r4,q4⟩=>ho' pins s4 σ H4 y z' u w' Q I4 r2 r4 q4))
theorem Zdg {op op':CmpOp}{r r':R2} (ho:OpR X (compareOp op) r) (ho':OpR X (compareOp op') r') (ha:PE X a ta) (hb:PE X b tb) (hc:PE X c tc)
  (hm:lastMarks [op,op'] [b,c]=false:=by with_unfolding_all rfl):PT X (.Compare a [op,op'] [b,c] pos) (tTest (tChain r r' ta tb tc)):=by
 intro pins s σ H Q I h
 refine isTrue_chain (thn (ha pins s σ H _ I h) λv s1 ⟨x,H1,I1,r1,q1⟩=>test_link (thn (hb pins s1 σ H1 _ I1 q1) λu s2 ⟨y,H2,I2,r2,q2⟩ =>
  thn (ho pins s2 σ H2 x y v u _ I2 r1 r2 q2) λd s3 ⟨z,H3,I3,r3,k,e,q3⟩=>?_)) hm
 subst e
 cases r3
 refine wpAny_truthy_bool ?_
 cases k with
 |false =>
  obtain⟨k',e',q'⟩:=q3
  cases e'
  exact ite_ff ⟨H3,I3,q'⟩
 |true =>
  refine ite_tt (test_last (thn (hc pins s3 σ H3 _ I3 q3) λw' s4 ⟨z',H4,I4,r4,q4⟩=>thn (ho' pins s4 σ H4 y z' u w' _ I4 r2 r4 q4) λd' s5 ⟨z2,H5,I5,r5,k2,e2,q5⟩=>?_))
  subst e2
  cases r5
  exact wpAny_truthy_bool ⟨H5,I5,q5⟩
noncomputable def TruV (K:PySem.W.Frag) (x:V) (H:Hp) (k:Bool):Prop :=
 match x with
 |.non=>k=false
 |.bl b=>k=b
 |.int i=>k=(i != 0)
 |.str y=>y.length<=sizeLine/\k=((y.length:Int) != 0)
 |.byt y=>y.size<=sizeLine/\k=((y.size:Int) != 0)
 |.ref p=>(∃xs,SqL K H p xs/\k=!xs.isEmpty)\/(∃xs,SqT K H p xs/\k=!xs.isEmpty)\/∃kvs,H p=some (.dK kvs)/\k=!kvs.isEmpty
 |_=>False
theorem ZlY {κ:Type}{kvs:List (κ×V)}{vs:List (κ×Value)} (r:KV kvs vs):(!vs.isEmpty)=!kvs.isEmpty:=by
 cases r<;>rfl
theorem Zh7 {xs:List V}{its:List Value} (r:Vals xs its):(!its.toArray.isEmpty)=!xs.isEmpty:=by
 cases r<;>simp
theorem Zh8:(sizeLine:Nat)<2 ^ 63:=by rw[sizeLine_eq];decide
theorem tru_ok:TruR X (λx H Q=>∃k,TruV X.K x H k/\Q k H):=by
 intro pins s σ H x v Q I rx h
 obtain⟨k,e,q⟩:=h
 have hl:=Zh8
 have hs:sizeLine=16777216:=sizeLine_eq
 cases x with
 |non =>
  cases rx
  have e':k=false:=e
  subst e'
  exact truthy_none ⟨H,I,q⟩
 |bl b =>
  cases rx
  have e':k=b:=e
  subst e'
  exact wpAny_truthy_bool ⟨H,I,q⟩
 |int i =>
  obtain⟨t,rfl⟩:=rx
  have e':k=(i != 0):=e
  subst e'
  exact PySem.P.truthy_int ⟨H,I,q⟩
 |str y =>
  obtain⟨t,rfl⟩:=rx
  obtain⟨hy,e'⟩:y.length<=sizeLine/\k=((y.length:Int) != 0):=e
  subst e'
  exact PySem.P.truthy_str (by omega) ⟨H,I.tok _,q⟩
 |byt y =>
  obtain⟨t,rfl⟩:=rx
  obtain⟨hy,e'⟩:y.size<=sizeLine/\k=((y.size:Int) != 0):=e
  subst e'
  exact PySem.W.truthy_bytes (by omega) ⟨H,I.tok _,q⟩
 |ref p =>
  cases rx
  have e':(∃xs,SqL X.K H p xs/\k=!xs.isEmpty)\/(∃xs,SqT X.K H p xs/\k=!xs.isEmpty)\/∃kvs,H p=some (.dK kvs)/\k=!kvs.isEmpty:=e
  rcases e' with⟨xs,hx,e'⟩|⟨xs,hx,e'⟩|⟨kvs,hx,e'⟩
  ·subst e'
   obtain⟨its,r,pl,hz⟩:=I.list hx
   have hlen:=r.length
   exact wpAny_truthy_list pl.isList (by simp only[Yo];omega) ⟨H,I.tok _,by rw[Zh7 r];exact q⟩
  ·subst e'
   obtain⟨its,r,pl,hz⟩:=I.tuple hx
   have hlen:=r.length
   exact truthy_tuple pl (by simp only[Yo];omega) ⟨H,I.tok _,by rw[Zh7 r];exact q⟩
  ·subst e'
   obtain⟨hz,hS,vs,r,m⟩:kvs.length<=sizeLine/\(p==sysModules)=false/\∃vs,KV kvs vs/\s.heap.DictOf (ZaE X.prog X.w) p vs:=I.hok p _ hx
   have hlen:kvs.length=vs.length:=Paired.length r
   exact wpAny_truthy_dict hS m (by omega) ⟨H,I.tok _,by rw[ZlY r];exact q⟩
 |_=>exact(show False from e).elim
theorem ZoR (ha:PE X a ta) (he:∀whole,isTrue a X.env whole=(do let v <-whole;standAt a.pos;holding [v] (truthy v))) :
  PT X a (fun σ H Q=>ta σ H λx H'=>∃k,TruV X.K x H' k/\Q k H'):=by
 intro pins s σ H Q I h
 exact isTrue_plain (thn (ha pins s σ H _ I h) λv s1 ⟨x,H1,I1,r1,q1⟩=>tru_ok pins s1 σ H1 x v Q I1 r1 q1) (he _)
theorem vals1 {x:V}{us:List Value} (r:Vals [x] us):∃u,us=[u]/\RelV x u:=by
 cases r with
 |cons r1 r2=>cases r2;exact⟨_,rfl,r1⟩
theorem Zm9:ZbL X (.type "int") (λxs H Q=>(∃i,xs=[.int i]/\Q (.int i) H)\/∃k,xs=[.bl k]/\Q (.int (if k then 1 else 0)) H):=by
 intro pins s σ H xs us Q I r h
 rcases h with⟨i,rfl,q⟩|⟨k,rfl,q⟩
 ·obtain⟨u,rfl,t,rfl⟩:=vals1 r
  exact call_int_int ⟨.int i,H,I,⟨_,rfl⟩,q⟩
 ·obtain⟨u,rfl,r1⟩:=vals1 r
  cases r1
  exact call_int_bool ⟨.int (if k then 1 else 0),H,I.tok _,⟨_,rfl⟩,q⟩
end
structure ObjM (h:Heap) (x dx C:Addr) (mA:Str->Option Value):Prop where
 obj:h.get? x=some (PySem.W.instObj C dx)
 ns:h.Ns1 dx mA
 ne:dx≠x
theorem Zna {h:Heap}{dx:Addr}{mA:Str->Option Value} (n:h.Ns1 dx mA):∃od,h.get? dx=some od/\∀name,PySem.W.lookIn name od=some (mA name):=by
 obtain⟨o,es,ep,ho,hd,hk,_,hm⟩:=n
 refine⟨o,ho,λname=>?_⟩
 have e:=hm name
 unfold nsFind findBy at e
 rw[<-Array.find?_toList]at e
 unfold PySem.W.lookIn
 rw[hd]
 dsimp only
 split
 ·rename_i y q
  rw[q]at e
  exact congrArg some e
 ·rename_i q
  rw[q]at e
  have a:es.toList.any (·.refKey)=false:=by
   rw[List.any_eq_false]
   intro y hy
   obtain⟨z,t,hkey⟩:=hk y (Array.mem_toList_iff.mp hy)
   simp[DictEntry.refKey,hkey]
  have a':¬ es.toList.any (·.refKey)=true:=by rw[a];exact Yw
  rw[Yb a']
  exact congrArg some e
theorem ObjM.look {h:Heap}{x dx C:Addr}{mA:Str->Option Value} (I:ObjM h x dx C mA):∃od,PySem.W.InstAt h x (PySem.W.instObj C dx) C (some od)/\∀name,PySem.W.lookIn name od=some (mA name) :=
 let ⟨od,ho,hl⟩:=Zna I.ns
 ⟨od,⟨I.obj,rfl,rfl,ho⟩,hl⟩
section
variable {prog:Program}{w:World}{A:Around}{E:Value->Shared->Prop}{s:Shared}{K:PySem.W.Frag}{x dx C f:Addr}{mA:Str->Option Value}{name:Str}{v:Value}
theorem get_map {expr:Bool}{Q:Value->Shared->Prop} (X:K.In s.heap) (I:ObjM s.heap x dx C mA) (hg:PySem.W.plainGet K C name=true) (hh:PySem.W.hasDictIn K C=true)
  (ha:PySem.W.findIn K (.ref C) name=some none) (hv:mA name=some v) (hv':PySem.W.handedIn v=true) (h:Q v {s with toks:=s.toks+1}) :
  wpAny (model prog w) A (getAttr (.ref x) name expr) Q E s:=by
 obtain⟨od,J,hl⟩:=I.look
 exact PySem.W.get_value X J (PySem.W.plainGet_of hg).1 (PySem.W.findObj_own hh ha rfl (by rw[hl,hv])) hv' h
theorem ZoS {pl:Sem Bool}{Q:Value×List Value->Shared->Prop} (X:K.In s.heap) (I:ObjM s.heap x dx C mA) (hg:PySem.W.plainGet K C name=true)
  (hf:PySem.W.findIn K (.ref C) name=some (some (.ref f))) (ht:PySem.W.isFn K (.ref f)=true) (hv:mA name=none) (h:Q (.ref f,[.ref x]) s) :
  wpAny (model prog w) A (getMethod (.ref x) name pl) Q E s:=by
 obtain⟨od,J,hl⟩:=I.look
 exact PySem.W.method_fn X J (PySem.W.plainGet_of hg).1 (PySem.W.plainGet_of hg).2 hf (beq_iff_eq.mp ht) (by show(PySem.W.lookIn name od).map (·.isSome)=some false;rw[hl,hv];rfl) h
theorem Zq5 {ns:List Str}{Q:Unit->Shared->Prop} (X:K.In s.heap) (I:ObjM s.heap x dx C mA)
  (hs:PySem.W.findIn K (.ref C) "__setattr__"=some (some (.builtin "object.__setattr__"))) (hp:PySem.W.plainOver K C=true) (ht:PySem.W.takerIn K C name=some none) (hh:PySem.W.hasDictIn K C=true)
  (hw:PySem.Within mA ns) (hsz:ns.length<=sizeLine)
  (h:∀h',ObjM h' x dx C (λy=>if y=name then some v else mA y)->Heap.SameBut dx s.heap h'->Q () {s with heap:=h',toks:=s.toks+2}) :
  wpAny (model prog w) A (setAttr (.ref x) name v) Q E s:=by
 obtain⟨od,J,hl⟩:=I.look
 refine PySem.W.set_plain X J hs (PySem.W.osa_open (s:={s with toks:=s.toks+1}) (r:=none) X J hp ht λb=>?_)
 obtain⟨cd,hc,hd'⟩:=PySem.W.any_some hh
 have hx:s.heap.get? x=some ⟨.ref C,some dx,.plain,#[]⟩:=I.obj
 refine Ya (Ye (Ya (Ya (wpAny_loadPart hx (Ya (PySem.W.Looks.here (s:={s with toks:=s.toks+1}) (PySem.W.looks_clsIn X hc) ?_))))))
 rw[hd']
 refine Ye (a:=some dx) (Ya (Ye (Ya ?_)))
 refine wpAny_nsSet1 (s:={s with toks:=s.toks+1}) I.ns λh' hn2 hs2=>?_
 obtain⟨oD,esD,epD,hoD,hdD,hcD⟩:=hn2.count (PySem.Within.cons name v hw)
 refine Ya (wpAny_lookBehind hoD (by rw[hdD];exact pastItsLine_dict (Yf hcD (by rw[Yq];omega))) ?_)
 exact Ye (h _ ⟨(hs2.2 _ (Ne.symm I.ne)).trans I.obj,hn2,I.ne⟩ hs2)
theorem ZoT {R:Result->Shared->Prop}{vs:List Value}{kw:List (Str×Value)} (X:K.In s.heap) (hm:PySem.W.makesIn K C=true)
  (hi:PySem.W.findIn K (.ref C) "__init__"=some (some (.ref f))) (hf:PySem.W.typeIn K (.ref f)=some (.type "function"))
  (h:codeAny (model prog w) (A.under (.builtin "type.__call__" ⟨.ref C::vs,kw⟩)) (.call (.ref f) ⟨.ref (s.heap.objs.size+1)::vs,kw⟩) (PySem.W.InitBack (s.heap.objs.size+1) R)
   {s with heap:=(s.heap.push PySem.W.emptyDict).push (PySem.W.instObj C s.heap.objs.size)}) :
  codeAny (model prog w) A (.call (.ref C) ⟨vs,kw⟩) R s:=by
 obtain⟨hh,g,d,t,os⟩:=s
 exact PySem.W.make_core (PySem.W.makes_of X hm) (PySem.W.looks_findIn X hi) (λself=>PySem.W.bind_fn X self hf) (.inl rfl) h
end
noncomputable def Za5 (f:Str) (v:V):List (Str×V)->List (Str×V)
 |[]=>[(f,v)]
 |(g,x)::r=>if g=f then (g,v)::r else (g,x)::Za5 f v r
theorem ZbM (f g:Str) (v:V):∀fs:List (Str×V),(Za5 f v fs).lookup g=if g=f then some v else fs.lookup g
 |[]=>by
  show List.lookup g [(f,v)]=_
  by_cases h:g=f
  ·have hb:(g==f)=true:=beq_iff_eq.mpr h
   simp only[List.lookup,hb,Yc h]
  ·have hb:(g==f)=false:=beq_eq_false_iff_ne.mpr h
   simp only[List.lookup,hb,Yb h]
 |(k,x)::r=>by
  have ih:=ZbM f g v r
  rw[show Za5 f v ((k,x)::r)=(if k=f then (k,v)::r else (k,x)::Za5 f v r)from rfl]
  by_cases hk:k=f
  ·rw[Yc hk]
   by_cases h:g=k
   ·have hb:(g==k)=true:=beq_iff_eq.mpr h
    simp only[List.lookup,hb,Yc (h.trans hk)]
   ·have hb:(g==k)=false:=beq_eq_false_iff_ne.mpr h
    simp only[List.lookup,hb,Yb (λe:g=f=>h (e.trans hk.symm))]
  ·rw[Yb hk]
   by_cases h:g=k
   ·have hb:(g==k)=true:=beq_iff_eq.mpr h
    simp only[List.lookup,hb,Yb (λe:g=f=>hk (h.symm.trans e))]
   ·have hb:(g==k)=false:=beq_eq_false_iff_ne.mpr h
    simp only[List.lookup,hb]
    exact ih
theorem ZgI (f:Str) (v:V):∀fs:List (Str×V),f∈(Za5 f v fs).map (·.1)/\∀g,g∈fs.map (·.1)->g∈(Za5 f v fs).map (·.1)
 |[]=>⟨by simp[Za5],λg h=>by simp at h⟩
 |(k,x)::r=>by
  obtain⟨i1,i2⟩:=ZgI f v r
  rw[show Za5 f v ((k,x)::r)=(if k=f then (k,v)::r else (k,x)::Za5 f v r)from rfl]
  by_cases hk:k=f
  ·rw[Yc hk]
   subst hk
   exact⟨by simp,λg h=>by simpa using h⟩
  ·rw[Yb hk]
   refine⟨?_,λg h=>?_⟩
   ·rw[YF]
    exact YK _ i1
   ·rw[YF]at h⊢
    rcases Yl.mp h with e|e
    ·exact Yl.mpr (.inl e)
    ·exact YK _ (i2 g e)
theorem ZaF (f:Str) (v:V):∀fs:List (Str×V),(Za5 f v fs).length<=fs.length+1
 |[]=>by simp[Za5]
 |(k,x)::r=>by
  have ih:=ZaF f v r
  rw[show Za5 f v ((k,x)::r)=(if k=f then (k,v)::r else (k,x)::Za5 f v r)from rfl]
  by_cases hk:k=f
  ·rw[Yc hk,Yq,Yq];omega
  ·rw[Yb hk,Yq,Yq];omega
theorem Zd6.some_of {v:V}{o:Option Value} (r:Zd6 (some v) o):∃u,o=some u/\RelV v u:=by
 cases o with
 |none=>exact(show False from r).elim
 |some u=>exact⟨u,rfl,r⟩
theorem Zd6.none_of {o:Option Value} (r:Zd6 none o):o=none:=by
 cases o with
 |none=>rfl
 |some u=>exact(show False from r).elim
theorem Znb {v:V}{u:Value} (r:RelV v u):PySem.W.handedIn u=true:=by
 cases v with
 |non=>cases(show u=Value.none from r);rfl
 |bl b=>cases(show u=Value.bool b from r);rfl
 |int i=>obtain⟨t,e⟩:=(show ∃t,u=Value.int i t from r);cases e;rfl
 |str x=>obtain⟨t,e⟩:=(show ∃t,u=Value.str x t from r);cases e;rfl
 |byt b=>obtain⟨t,e⟩:=(show ∃t,u=Value.bytes b t from r);cases e;rfl
 |flt b=>obtain⟨t,e⟩:=(show ∃t,u=Value.float b t from r);cases e;rfl
 |ref a=>cases(show u=Value.ref a from r);rfl
 |ty n=>cases(show u=Value.type n from r);rfl
section
variable {P:Program}{w:World}{H H':Hp}{h h':Heap}{a C dx:Addr}{fs fs':List (Str×V)}
theorem ZhS (hok:HOk P w H h) (e:H a=some (.ins C dx fs)):∃mA,ObjM h a dx C mA/\(∀f,Zd6 (fs.lookup f) (mA f))/\PySem.Within mA (fs.map (·.1))/\fs.length<=1000/\H dx=some (.own a):=by
 obtain⟨d,z,ne,ob,mA,n,r,q⟩:=(show ZS P w H h a (.ins C dx fs)from hok a _ e)
 exact⟨mA,⟨ob,n,ne⟩,r,q,z,d⟩
end
structure Cls (K:PySem.W.Frag) (C:Addr):Prop where
 pg:PySem.W.plainGet K C Str.empty=true
 hd:PySem.W.hasDictIn K C=true
 po:PySem.W.plainOver K C=true
 sa:PySem.W.findIn K (.ref C) "__setattr__"=some (some (.builtin "object.__setattr__"))
theorem Cls.get {K:PySem.W.Frag}{C:Addr} (c:Cls K C) (f:Str):PySem.W.plainGet K C f=true:=c.pg
noncomputable def NoAttr (K:PySem.W.Frag) (C:Addr) (f:Str):Prop:=PySem.W.findIn K (.ref C) f=some none
theorem NoAttr.taker {K:PySem.W.Frag}{C:Addr}{f:Str} (n:NoAttr K C f):PySem.W.takerIn K C f=some none:=by
 unfold PySem.W.takerIn
 rw[show PySem.W.findIn K (.ref C) f=some none from n]
 rfl
structure Meth (K:PySem.W.Frag) (C:Addr) (m:Str) (f:Addr):Prop where
 at_:PySem.W.findIn K (.ref C) m=some (some (.ref f))
 fn:PySem.W.isFn K (.ref f)=true
 kp:PySem.W.keepIn K (.ref f)=true
section
variable {X:Cx}{pins:List (Addr×Obj)}{σ:St}{H:Hp}{s:Shared}{a C dx:Addr}{fs:List (Str×V)}{f:Str}{v:V}{A:Around}{E:Value->Shared->Prop}
theorem ZlZ {b:Bool}{Q:Value->Shared->Prop} (I:Inv X pins σ H s) (e:H a=some (.ins C dx fs)) (c:Cls X.K C) (n:NoAttr X.K C f) (l:fs.lookup f=some v)
  (h:∀u s',Inv X pins σ H s'->RelV v u->Q u s'):wpAny (model X.prog X.w) A (getAttr (.ref a) f b) Q E s:=by
 obtain⟨mA,O,r,_,_,_⟩:=ZhS I.hok e
 obtain⟨u,hu,ru⟩:=Zd6.some_of (v:=v) (o:=mA f) (by rw[<-l];exact r f)
 exact get_map I.kIn O (c.get f) c.hd n hu (Znb ru) (h u _ (I.tok _) ru)
theorem Zh9 {m:Str}{g:Addr}{pl:Sem Bool}{Q:Value×List Value->Shared->Prop} (I:Inv X pins σ H s) (e:H a=some (.ins C dx fs)) (c:Cls X.K C) (k:Meth X.K C m g) (l:fs.lookup m=none)
  (h:Q (.ref g,[.ref a]) s):wpAny (model X.prog X.w) A (getMethod (.ref a) m pl) Q E s:=by
 obtain⟨mA,O,r,_,_,_⟩:=ZhS I.hok e
 have hn:mA m=none:=Zd6.none_of (by rw[<-l];exact r m)
 exact ZoS I.kIn O (c.get m) k.at_ k.fn hn h
theorem Zl0 {y:V}{u:Value}{Q:Unit->Shared->Prop} (I:Inv X pins σ H s) (e:H a=some (.ins C dx fs)) (c:Cls X.K C) (n:NoAttr X.K C f) (hl:fs.length<1000) (ry:RelV y u)
  (h:∀s',Inv X pins σ (upd H a (.ins C dx (Za5 f y fs))) s'->Q () s'):wpAny (model X.prog X.w) A (setAttr (.ref a) f u) Q E s:=by
 obtain⟨mA,O,r,wi,_,ho⟩:=ZhS I.hok e
 have hz:(fs.map (·.1)).length<=sizeLine:=by rw[Yh,sizeLine_eq];omega
 refine Zq5 I.kIn O c.sa c.po n.taker c.hd wi hz λh' O' sb=>h _ ?_
 have hd:∃o,h'.get? dx=some o:=let ⟨o,_,_,e',_⟩:=O'.ns;⟨o,e'⟩
 refine I.write (x:=a) (e:=dx) (by rw[e];exact True.intro) (.inr ho) (λb q hb z=>(sb.2 b hb).trans z) hd ?_
 refine⟨by rw[Zh O.ne];exact ho,?_,O.ne,O'.obj,_,O'.ns,λg=>?_,λg hg=>?_⟩
 ·have:=ZaF f y fs;omega
 ·show Zd6 ((Za5 f y fs).lookup g) (if g=f then some u else mA g)
  rw[ZbM]
  by_cases q:g=f
  ·rw[Yc q,Yc q];exact ry
  ·rw[Yb q,Yb q];exact r g
 ·by_cases q:g=f
  ·rw[q];exact(ZgI f y fs).1
  ·refine(ZgI f y fs).2 g (wi g λz=>hg ?_)
   show(if g=f then some u else mA g)=none
   rw[Yb q];exact z
theorem Inv.made (I:Inv X pins σ H s):Inv X pins σ (upd (upd H s.heap.objs.size (.own (s.heap.objs.size+1))) (s.heap.objs.size+1) (.ins C s.heap.objs.size []))
  {s with heap:=(s.heap.push PySem.W.emptyDict).push (PySem.W.instObj C s.heap.objs.size)}:=by
 have e1:(s.heap.push PySem.W.emptyDict).get? s.heap.objs.size=some PySem.W.emptyDict:=Ym s.heap rfl
 have e2:((s.heap.push PySem.W.emptyDict).push (PySem.W.instObj C s.heap.objs.size)).get? (s.heap.objs.size+1)=some (PySem.W.instObj C s.heap.objs.size):=by
  have:=Ym (s.heap.push PySem.W.emptyDict) (o:=PySem.W.instObj C s.heap.objs.size) rfl
  rwa [Heap.size_push]at this
 have e3:(s.heap.push PySem.W.emptyDict).Ns s.heap.objs.size (λ_=>none):=⟨PySem.W.emptyDict,#[],_,e1,rfl,(λe he=>absurd he (by simp)),λ_=>rfl⟩
 have I1:=I.laid (a:=s.heap.objs.size) (o:=.own (s.heap.objs.size+1)) (h':=s.heap.push PySem.W.emptyDict) (t':=s.toks) (λb u q=>Yg _ q) (Yd _) ⟨_,e1⟩
 refine I1.laid (a:=s.heap.objs.size+1) (o:=.ins C s.heap.objs.size []) (t':=s.toks) (λb u q=>Yg _ q) (Y3 (Heap.size_push _ _)) ?_
 have ne:s.heap.objs.size≠s.heap.objs.size+1:=Yk (Nat.lt_succ_self _)
 refine⟨by rw[Zh ne,Zc],Yn _,ne,e2,λ_=>none,(Heap.Ns1.of_empty e3).at λo q=>Yg _ q,λ_=>True.intro,λy hy=>absurd rfl hy⟩
theorem Zq6 {prog:Program}{w:World}{env:Env}{e:Expr}{f:Str}{pos:Pos}{s:Shared}{Q:Value->Shared->Prop} (hb:attributeBase e f env (eval e env)=eval e env)
  (h:wpAny (model prog w) A (eval e env) (λo s₁=>wpAny (model prog w) A (getAttr o f true) Q E s₁) E s):wpAny (model prog w) A (eval (.Attribute e f pos) env) Q E s :=
 Attribute_any_ h (by rw[arm_eval_Attribute,hb])
end
section
variable {X:Cx}{pins:List (Addr×Obj)}{σ:St}{H:Hp}{s:Shared}{A:Around}{E:Value->Shared->Prop}{Q:Value->Shared->Prop}{c:Value}{b:Bool}
inductive TyOf (K:PySem.W.Frag) (H:Hp):V->Value->Prop where
 |non:TyOf K H .non (.type "NoneType")
 |bl (x:Bool):TyOf K H (.bl x) (.type "bool")
 |int (i:Int):TyOf K H (.int i) (.type "int")
 |str (x:Str):TyOf K H (.str x) (.type "str")
 |flt (x:UInt64):TyOf K H (.flt x) (.type "float")
 |lst {a:Addr}{xs:List V} (e:H a=some (.lst xs)):TyOf K H (.ref a) (.type "list")
 |frz {a:Addr}{o:Obj}{xs:List V} (e:H a=some (.frz o (.lst xs))):TyOf K H (.ref a) (.type "list")
 |tup {a:Addr}{xs:List V} (e:H a=some (.tup xs)):TyOf K H (.ref a) (.type "tuple")
 |dK {a:Addr}{kvs:List (Key×V)} (e:H a=some (.dK kvs)):TyOf K H (.ref a) (.type "dict")
 |dT {a:Addr}{kvs:List (List Key×V)} (e:H a=some (.dT kvs)):TyOf K H (.ref a) (.type "dict")
 |ins {a C dx:Addr}{fs:List (Str×V)} (e:H a=some (.ins C dx fs)) (cl:Cls K C) (ha:PySem.W.findIn K (.ref C) "__class__"=some (some (.builtin "object.__class__")))
   (hn:PySem.W.specialIn K (.builtin "object.__class__") "__get__"=some (some (.builtin "getset_descriptor.__get__"))) (htk:PySem.W.takesIn K (.builtin "object.__class__")=some true)
   (hm:PySem.W.mroIn K C (.type "object")=some true):TyOf K H (.ref a) (.ref C)
theorem Znc {x:V}{u t:Value} (I:Inv X pins σ H s) (rx:RelV x u) (ty:TyOf X.K H x t) (e:PySem.W.kitOne X.K t c=some b) (h:∀tk,Q (.bool b) {s with toks:=tk}) :
  wpAny (model X.prog X.w) A (call (.builtin "isinstance") [u,c]) Q E s:=by
 cases ty with
 |non=>cases(show u=Value.none from rx);exact PySem.W.kia_one PySem.W.kitx_none I.kIn True.intro e (λz=>nomatch z) h
 |bl y=>cases(show u=Value.bool y from rx);exact PySem.W.kia_one PySem.W.kitx_bool I.kIn True.intro e (λz=>nomatch z) h
 |int i=>obtain⟨t,q⟩:=(show ∃t,u=Value.int i t from rx);cases q;exact PySem.W.kia_one PySem.W.kitx_int I.kIn True.intro e (λz=>nomatch z) h
 |str y=>obtain⟨t,q⟩:=(show ∃t,u=Value.str y t from rx);cases q;exact PySem.W.kia_one PySem.W.kitx_str I.kIn True.intro e (λz=>nomatch z) h
 |flt y=>obtain⟨t,q⟩:=(show ∃t,u=Value.float y t from rx);cases q;exact PySem.W.kia_one PySem.W.kitx_float I.kIn True.intro e (λz=>nomatch z) h
 |@lst a xs ea =>
  cases(show u=Value.ref a from rx)
  obtain⟨_,_,n,_,h1⟩:=(show ZS X.prog X.w H s.heap a (.lst xs)from I.hok a _ ea)
  exact PySem.W.kia_one PySem.W.kitx_list I.kIn ⟨_,h1,rfl⟩ e (λz=>nomatch z) h
 |@frz a ob xs ea =>
  cases(show u=Value.ref a from rx)
  obtain⟨_,_,_,n,_,h1⟩:=(show ZS X.prog X.w H s.heap a (.frz ob (.lst xs))from I.hok a _ ea)
  exact PySem.W.kia_one PySem.W.kitx_list I.kIn ⟨_,h1,rfl⟩ e (λz=>nomatch z) h
 |@tup a xs ea =>
  cases(show u=Value.ref a from rx)
  obtain⟨_,_,_,p⟩:=(show ZS X.prog X.w H s.heap a (.tup xs)from I.hok a _ ea)
  obtain⟨o,h1,h2,_⟩:=p
  exact PySem.W.kia_one PySem.W.kitx_tuple I.kIn ⟨o,h1,h2⟩ e (λz=>nomatch z) h
 |@dK a kvs ea =>
  cases(show u=Value.ref a from rx)
  obtain⟨_,_,vs,_,p⟩:=(show ZS X.prog X.w H s.heap a (.dK kvs)from I.hok a _ ea)
  obtain⟨o,es,ep,h1,h2,_⟩:=p
  exact PySem.W.kia_one PySem.W.kitx_dict I.kIn ⟨o,h1,h2.1⟩ e (λz=>nomatch z) h
 |@dT a kvs ea =>
  cases(show u=Value.ref a from rx)
  obtain⟨_,_,xs,_,o,es,ep,h1,h2,_⟩:=(show ZS X.prog X.w H s.heap a (.dT kvs)from I.hok a _ ea)
  exact PySem.W.kia_one PySem.W.kitx_dict I.kIn ⟨o,h1,h2.1⟩ e (λz=>nomatch z) h
 |@ins a C dx fs ea cl ha hn htk hm =>
  cases(show u=Value.ref a from rx)
  obtain⟨mA,O,_⟩:=ZhS I.hok ea
  obtain⟨od,J,_⟩:=O.look
  exact PySem.W.kia_one (PySem.W.kitx_own (cl.get _) cl.hd ha hn htk hm) I.kIn J e (λz=>nomatch z) h
end
structure Room (k:Nat) (A:Around):Prop where
 hd:A.handled=none
 dp:A.depth+3*k+5<recursionLimit
 un:A.units+16*k+200<cLine
theorem Room.mono {j k:Nat}{A:Around} (r:Room k A) (h:j<=k):Room j A:=⟨r.hd,by have:=r.dp;omega,by have:=r.un;omega⟩
theorem Room.deeper {k:Nat}{A:Around} (r:Room (k+1) A) (env:Env):Room k (A.deeper env) :=
 ⟨r.hd,by have:=r.dp;show A.depth+1+3*k+5 < _;omega,by have:=r.un;show A.units+3+16*k+200 < _;omega⟩
theorem Room.in1 {k:Nat}{A:Around} (r:Room (k+1) A):Room k A.in1 :=
 ⟨r.hd,by have:=r.dp;show A.depth+3*k+5 < _;omega,by have:=r.un;show A.units+1+16*k+200 < _;omega⟩
theorem Zl1 {A:Around}{C:Addr}{us:List Value}{kw:List (Str×Value)}:(A.under (.builtin "type.__call__" ⟨.ref C::us,kw⟩)).depth=A.depth+1:=by
 first|rfl|simp[Around.under,Code.weight,Code.isCreation,Code.isGuard,Code.isCaller,Code.frames,Code.isFrame,guardIds]
theorem Zl2 {A:Around}{C:Addr}{us:List Value}{kw:List (Str×Value)}:(A.under (.builtin "type.__call__" ⟨.ref C::us,kw⟩)).units=A.units+1:=by
 first|rfl|simp[Around.under,Code.cUnits,Code.frames,Code.isFrame]
theorem Room.make {k:Nat}{A:Around} (r:Room (k+1) A) (C:Addr) (us:List Value) (kw:List (Str×Value)):Room k (A.under (.builtin "type.__call__" ⟨.ref C::us,kw⟩)) :=
 ⟨r.hd,by have:=r.dp;rw[Zl1];omega,by have:=r.un;rw[Zl2];omega⟩
theorem Room.depth {k:Nat}{A:Around} (r:Room k A):A.depth<recursionLimit:=by have:=r.dp;omega
theorem Room.units {k:Nat}{A:Around} (r:Room k A):A.units+64<cLine:=by have:=r.un;omega
noncomputable def tNil:TA:=λ_ H Q=>Q [] H
noncomputable def tCons (ta:TE) (tr:TA):TA:=fun σ H Q=>ta σ H λx H1=>tr σ H1 λxs H2=>Q (x::xs) H2
section
variable {X:Cx}{e:Expr}{es:List Expr}{te:TE}{t:TA}{pos:Pos}
theorem Zb:PA X [] tNil:=λ_ _ _ _ H Q I h=>Calls.spliced_nil ⟨[],H,I,.nil,h⟩
theorem Za (ha:PE X e te) (hr:PA X es t) (hs:starEach (e::es) X.env=(false,eval e X.env)::starEach es X.env:=by rfl):PA X (e::es) (tCons te t):=by
 intro pos pins s σ H Q I h
 rw[hs]
 show wpAny _ _ (spliced ((false,eval e X.env)::backTo pos (starEach es X.env))) _ _ s
 refine Calls.spliced_cons (thn (ha pins s σ H _ I h) λu s1 ⟨x,H1,I1,r1,q1⟩=>?_)
 exact thn (hr pos pins s1 σ H1 _ I1 q1) λus s2 ⟨xs,H2,I2,r2,q2⟩=>⟨x::xs,H2,I2,.cons r1 r2,q2⟩
noncomputable def tTup (t:TA):TE:=fun σ H Q=>t σ H λxs H1=>xs.length<=sizeLine/\∀p,H1 p=none->Q (.ref p) (upd H1 p (.tup xs))
noncomputable def tLst (t:TA):TE:=fun σ H Q=>t σ H λxs H1=>xs.length<=sizeLine/\∀p,H1 p=none->Q (.ref p) (upd H1 p (.lst xs))
theorem Zck {x1} (h:PA X es t):PE X (.Tuple es x1 pos) (tTup t):=by
 intro pins s σ H Q I hq
 refine wpAny_Tuple_spliced (thn (h pos pins s σ H _ I hq) λus s1 ⟨xs,H1,I1,r,z,q⟩=>⟨by rw[<-r.length];exact z,?_⟩)
 have hf:H1 s1.heap.objs.size=none:=I1.hok.fresh (Yd _)
 refine⟨.ref s1.heap.objs.size,upd H1 s1.heap.objs.size (.tup xs),I1.laid (t':=s1.toks) (λb u e=>Yg _ e) (Yd _) ?_,rfl,q _ hf⟩
 exact⟨z,us,r,⟨_,Ym _ rfl,rfl,_,rfl⟩⟩
theorem ZO (h:PA X es t):PE X (.List es pos) (tLst t):=by
 intro pins s σ H Q I hq
 refine wpAny_List_spliced (thn (h pos pins s σ H _ I hq) λus s1 ⟨xs,H1,I1,r,z,q⟩=>⟨by rw[<-r.length];exact z,?_⟩)
 have hf:H1 s1.heap.objs.size=none:=I1.hok.fresh (Yd _)
 refine⟨.ref s1.heap.objs.size,upd H1 s1.heap.objs.size (.lst xs),I1.laid (t':=s1.toks) (λb u e=>Yg _ e) (Yd _) ?_,rfl,q _ hf⟩
 exact⟨z,us,0,r,Ym _ rfl⟩
end
noncomputable abbrev Sp:=List V->Hp->VK->XK->Prop
noncomputable abbrev CXT:=List Env->Hp->Shared->XK->Value->Shared->Prop
structure Env0 (P:Program) (w:World) (K:PySem.W.Frag) (mg:Str->Option Value) (base:Heap) (A:Around) (outer:List Env) (s:Shared) (H:Hp):Prop where
 frames:A.frames=some outer
 mod:Mod K mg base
 bs:∀b o,base.get? b=some o->s.heap.get? b=some o/\H b=none
 bsz:base.objs.size<=s.heap.objs.size
 funs:s.heap.FunFrames base outer
 frf:∀b∈frs outer,H b=none
 hok:HOk P w H s.heap
 bare:AllBare s.gens
noncomputable def CE (outer:List Env) (P:Program) (w:World) (H:Hp) (s:Shared) (Q:VK) (u:Value) (s':Shared):Prop :=
 ∃v H',s'.os=s.os/\AllBare s'.gens/\Un (frs outer) [] H H' s.heap s'.heap/\HOk P w H' s'.heap/\RelV v u/\Q v H'
noncomputable def CR (CX:CXT) (outer:List Env) (P:Program) (w:World) (H:Hp) (s:Shared) (Q:VK) (E:XK) (r:Result) (s':Shared):Prop :=
 match r with
 |.ok (.ret u)=>CE outer P w H s Q u s'
 |.ok _=>False
 |.error e=>CX outer H s E e s'
structure FnOk (P:Program) (w:World) (K:PySem.W.Frag) (mg:Str->Option Value) (base:Heap) (CX:CXT) (k:Nat) (f:Addr) (fd:FuncData) (ps:List Str) (sp:Sp):Prop where
 len:∀vs H Q E,sp vs H Q E->vs.length=ps.length
 run:∀(A:Around) (outer:List Env) (s:Shared) (H:Hp) (args:Args) (us:List Value) (vs:List V) (Q:VK) (E:XK),Room k A->Env0 P w K mg base A outer s H->BindsTo s fd args (ps.zip us)->Vals vs us->sp vs H Q E ->
  codeAny (model P w) A (.call (.ref f) args) (CR CX outer P w H s Q E) s
theorem Env0.make {P:Program}{w:World}{K:PySem.W.Frag}{mg:Str->Option Value}{base:Heap}{A:Around}{outer:List Env}{s:Shared}{H:Hp} (e:Env0 P w K mg base A outer s H) (C:Addr) (us:List Value) (kw:List (Str×Value)) :
  Env0 P w K mg base (A.under (.builtin "type.__call__" ⟨.ref C::us,kw⟩)) outer s H:=⟨by first|exact e.frames|(simpa[Around.under,Code.envs,Code.isFrame,pushEnvs]using e.frames),e.mod,e.bs,e.bsz,e.funs,e.frf,e.hok,e.bare⟩
section
variable {X:Cx}{pins:List (Addr×Obj)}{σ:St}{H:Hp}{s s':Shared}
theorem Inv.env0 (I:Inv X pins σ H s):Env0 X.prog X.w X.K X.mg X.base X.A X.stack s H :=
 ⟨I.ok.frames,I.ok.mod,I.bs,Yf I.ok.bsz I.sz,I.stack,I.ZhR,I.hok,I.bare⟩
theorem Inv.after {Q:VK}{u:Value} (I:Inv X pins σ H s) (h:CE X.stack X.prog X.w H s Q u s'):EP X pins σ Q u s':=by
 obtain⟨v,H',os,bare,un,hok,r,q⟩:=h
 obtain⟨hh,g,d,t,os'⟩:=s'
 obtain rfl:os'=s.os:=os
 exact⟨v,H',I.call (h':=hh) (g':=g) (d':=d) (t':=t) (ch:=[]) un hok bare (λb z=>absurd z (by simp)),r,q⟩
end
noncomputable def tCall (sp:Sp) (dvs:List V) (E:XK) (t:TA):TE:=fun σ H Q=>t σ H λvs H1=>sp (vs++dvs) H1 Q E
noncomputable def tMeth (C:Addr) (m:Str) (sp:Sp) (dvs:List V) (E:XK) (ta:TE) (t:TA):TE:=fun σ H Q=>ta σ H λx H1=>∃a dx fs,x=.ref a/\H1 a=some (.ins C dx fs)/\fs.lookup m=none /\
 t σ H1 λvs H2=>sp (x::(vs++dvs)) H2 Q E
noncomputable def tMake (C:Addr) (sp:Sp) (dvs:List V) (E:XK) (t:TA):TE:=fun σ H Q=>t σ H λvs H1=>∀x dx,H1 x=none->H1 dx=none->dx≠x ->
 sp (.ref x::(vs++dvs)) (upd (upd H1 dx (.own x)) x (.ins C dx [])) (λv H2=>v=.non/\Q (.ref x) H2) E
noncomputable def Binds (K:PySem.W.Frag) (fd:FuncData) (ps:List Str) (ds:List Value):Prop :=
 ∀(s:Shared) (us:List Value),K.In s.heap->(us++ds).length=ps.length->BindsTo s fd ⟨us,[]⟩ (ps.zip (us++ds))
theorem Binds.all {K:PySem.W.Frag}{fd:FuncData}{ps:List Str} (h:∀us:List Value,us.length=ps.length->bindArgs fd ⟨us,[]⟩=pure (ps.zip us)):Binds K fd ps []:=λs us _ hl=>by
 rw[List.append_nil]at hl⊢
 exact .of_eq (h us hl)
noncomputable def Passes (CX:CXT) (X:Cx) (E:XK):Prop:=∀(pins:List (Addr×Obj)) (σ:St) (H:Hp) (s:Shared) (e:Value) (s':Shared),Inv X pins σ H s->CX X.stack H s E e s'->X.xe e s'
section
variable {X:Cx}{CX:CXT}{k:Nat}{f C:Addr}{fd:FuncData}{ps:List Str}{sp:Sp}{dvs:List V}{ds:List Value}{E:XK}{x m:Str}{p pos apos:Pos}{e o:Expr}{es:List Expr}{ta:TE}{t:TA}
theorem Zl3 {pins:List (Addr×Obj)}{σ:St}{H:Hp}{s:Shared}{Q:VK}{us:List Value}{vs:List V} (F:FnOk X.prog X.w X.K X.mg X.base CX k f fd ps sp) (hr:Room k X.A) (hb:Binds X.K fd ps ds) (hd:Vals dvs ds) (hx:Passes CX X E)
  (I:Inv X pins σ H s) (r:Vals vs us) (h:sp (vs++dvs) H Q E):wpAny (model X.prog X.w) X.A (call (.ref f) us) (EP X pins σ Q) X.xe s:=by
 have r2:Vals (vs++dvs) (us++ds):=r.append hd
 have hl:(us++ds).length=ps.length:=by rw[<-r2.length];exact F.len _ _ _ _ h
 refine wpAny_call (codeAny_mono (F.run X.A X.stack s H ⟨us,[]⟩ (us++ds) (vs++dvs) Q E hr I.env0 (hb s us I.kIn hl) r2 h) λr s' hq=>?_)
 cases r with
 |error e=>exact hx pins σ H s e s' I hq
 |ok fl =>
  cases fl with
  |ret u=>exact I.after hq
  |next=>exact False.elim hq
  |brk=>exact False.elim hq
  |cont=>exact False.elim hq
theorem Zq7 (F:FnOk X.prog X.w X.K X.mg X.base CX k f fd ps sp) (hr:Room k X.A) (hg:Gl X x) (hm:X.mg x=some (.ref f)) (hk:PySem.W.keepIn X.K (.ref f)=true) (hb:Binds X.K fd ps ds) (hd:Vals dvs ds) (hx:Passes CX X E)
  (ha:PA X (e::es) t) (hdb:(x==("__debug__":Str))=false:=by decide) (he:starEach (e::es) X.env=(false,eval e X.env)::starEach es X.env:=by rfl) (hpl:(backTo pos (starEach es X.env)).any (·.1)=false:=by rfl) :
  PE X (.Call (.Name x p) (e::es) [] pos) (tCall sp dvs E t):=by
 intro pins s σ H Q I h
 refine wpAny_Call_Name_kw (Zff I hg hm ?_ hdb)
 refine PySem.W.callWith_K (h₀:=X.base) I.ok.mod.kin hk (thn (ha pos pins s σ H _ I h) λus s1 ⟨vs,H1,I1,r,q⟩=>⟨I1.kIn,?_⟩) he hpl
 exact Zl3 F hr hb hd hx I1 r q
theorem Zq8 {pl:Sem Bool} (he:PE X o ta) (c:Cls X.K C) (hm:Meth X.K C m f) (F:FnOk X.prog X.w X.K X.mg X.base CX k f fd ps sp) (hr:Room k X.A) (hb:Binds X.K fd ps ds) (hd:Vals dvs ds) (hx:Passes CX X E) (ha:PA X (e::es) t)
  (hst:starEach (e::es) X.env=(false,eval e X.env)::starEach es X.env:=by rfl) (hpl:(backTo pos (starEach es X.env)).any (·.1)=false:=by rfl)
  (ht:eval (.Call (.Attribute o m apos) (e::es) [] pos) X.env=(do
   let ov <-eval o X.env
   standAt apos.atName
   let (f,first) <-holding [ov] (getMethod ov m pl)
   callWith pos f first (backTo pos (starEach (e::es) X.env)) (backToKw pos (keywordEach [] X.env))):=by rfl) :
  PE X (.Call (.Attribute o m apos) (e::es) [] pos) (tMeth C m sp dvs E ta t):=by
 intro pins s σ H Q I h
 refine PySem.W.methodCall_KW (pl:=pl) (thn (he pins s σ H _ I h) λu s1 ⟨x,H1,I1,rx,a,dx,fs,ex,ea,l,q⟩=>?_) ht
 subst ex
 obtain rfl:u=Value.ref a:=rx
 refine Zh9 I1 ea c hm l ?_
 refine PySem.W.callWith_K (first:=[.ref a]) (h₀:=X.base) I.ok.mod.kin hm.kp (thn (ha pos pins s1 σ H1 _ I1 q) λus s2 ⟨vs,H2,I2,r,q2⟩=>⟨I2.kIn,?_⟩) hst hpl
 exact Zl3 (us:=.ref a::us) (vs:=.ref a::vs) F hr hb hd hx I2 (.cons rfl r) q2
theorem ZoU {pl:Sem Bool} (he:PE X o ta) (c:Cls X.K C) (hm:Meth X.K C m f) (F:FnOk X.prog X.w X.K X.mg X.base CX k f fd ps sp) (hr:Room k X.A) (hb:Binds X.K fd ps ds) (hd:Vals dvs ds) (hx:Passes CX X E)
  (ht:eval (.Call (.Attribute o m apos) [] [] pos) X.env=(do
   let ov <-eval o X.env
   standAt apos.atName
   let (f,first) <-holding [ov] (getMethod ov m pl)
   callWith pos f first (backTo pos (starEach [] X.env)) (backToKw pos (keywordEach [] X.env))):=by rfl) :
  PE X (.Call (.Attribute o m apos) [] [] pos) (tMeth C m sp dvs E ta tNil):=by
 intro pins s σ H Q I h
 refine PySem.W.methodCall_KW (pl:=pl) (thn (he pins s σ H _ I h) λu s1 ⟨x,H1,I1,rx,a,dx,fs,ex,ea,l,q⟩=>?_) ht
 subst ex
 obtain rfl:u=Value.ref a:=rx
 refine Zh9 I1 ea c hm l ?_
 exact PySem.W.callWith_K0 (first:=[.ref a]) I1.kIn hm.kp (Zl3 (us:=[.ref a]) (vs:=[.ref a]) F hr hb hd hx I1 (.cons rfl .nil) q)
structure Mk (K:PySem.W.Frag) (C f:Addr):Prop where
 makes:PySem.W.makesIn K C=true
 init:PySem.W.findIn K (.ref C) "__init__"=some (some (.ref f))
 fn:PySem.W.isFn K (.ref f)=true
 kp:PySem.W.keepIn K (.ref C)=true
theorem ZoV {pins:List (Addr×Obj)}{σ:St}{H:Hp}{s:Shared}{Q:VK}{us:List Value}{vs:List V} (M:Mk X.K C f) (F:FnOk X.prog X.w X.K X.mg X.base CX k f fd ps sp) (hr:Room (k+1) X.A) (hb:Binds X.K fd ps ds) (hd:Vals dvs ds)
  (hx:Passes CX X E) (I:Inv X pins σ H s) (r:Vals vs us)
  (h:∀x dx,H x=none->H dx=none->dx≠x->sp (.ref x::(vs++dvs)) (upd (upd H dx (.own x)) x (.ins C dx [])) (λv H2=>v=.non/\Q (.ref x) H2) E) :
  wpAny (model X.prog X.w) X.A (call (.ref C) us) (EP X pins σ Q) X.xe s:=by
 have hq:=h (s.heap.objs.size+1) s.heap.objs.size (I.hok.fresh (YT _)) (I.hok.fresh (Yd _)) (Yk (Nat.lt_succ_self _))
 have I2:=Inv.made (C:=C) I
 have r2:Vals (V.ref (s.heap.objs.size+1)::(vs++dvs)) (Value.ref (s.heap.objs.size+1)::(us++ds)):=.cons rfl (r.append hd)
 have hl:(Value.ref (s.heap.objs.size+1)::us++ds).length=ps.length:=by
  have e:=r2.length
  rw[F.len _ _ _ _ hq]at e
  exact e.symm
 refine wpAny_call (ZoT (f:=f) I.kIn M.makes M.init (beq_iff_eq.mp M.fn) (codeAny_mono (F.run _ X.stack _ _ ⟨Value.ref (s.heap.objs.size+1)::us,[]⟩ (Value.ref (s.heap.objs.size+1)::(us++ds)) _ _ E (hr.make C us [])
  (I2.env0.make C us []) (hb _ (Value.ref (s.heap.objs.size+1)::us) I2.kIn hl) r2 hq) λr s' hq'=>?_))
 cases r with
 |error e=>exact hx pins σ _ _ e s' I2 hq'
 |ok fl =>
  cases fl with
  |ret u =>
   obtain⟨v,H',I3,rv,ev,q3⟩:=I2.after hq'
   subst ev
   exact⟨rv,⟨V.ref (s.heap.objs.size+1),H',I3,rfl,q3⟩⟩
  |next=>exact False.elim hq'
  |brk=>exact False.elim hq'
  |cont=>exact False.elim hq'
theorem Zq9 (M:Mk X.K C f) (F:FnOk X.prog X.w X.K X.mg X.base CX k f fd ps sp) (hr:Room (k+1) X.A) (hg:Gl X x) (hm:X.mg x=some (.ref C)) (hb:Binds X.K fd ps ds) (hd:Vals dvs ds) (hx:Passes CX X E)
  (ha:PA X (e::es) t) (hdb:(x==("__debug__":Str))=false:=by decide) (he:starEach (e::es) X.env=(false,eval e X.env)::starEach es X.env:=by rfl) (hpl:(backTo pos (starEach es X.env)).any (·.1)=false:=by rfl) :
  PE X (.Call (.Name x p) (e::es) [] pos) (tMake C sp dvs E t):=by
 intro pins s σ H Q I h
 refine wpAny_Call_Name_kw (Zff I hg hm ?_ hdb)
 refine PySem.W.callWith_K (h₀:=X.base) I.ok.mod.kin M.kp (thn (ha pos pins s σ H _ I h) λus s1 ⟨vs,H1,I1,r,q⟩=>⟨I1.kIn,?_⟩) he hpl
 exact ZoV M F hr hb hd hx I1 r q
end
noncomputable def PK (X:Cx) (kws:List Keyword) (t:TA):Prop :=
 ∀(pos:Pos) (pins:List (Addr×Obj)) (s:Shared) (σ:St) (H:Hp) (Q:List V->Hp->Prop),Inv X pins σ H s->t σ H Q->wpAny (model X.prog X.w) X.A (evalAll ((backToKw pos (keywordEach kws X.env)).map (·.2))) (AP X pins σ Q) X.xe s
section
variable {X:Cx}{CX:CXT}{k:Nat}{f C:Addr}{fd:FuncData}{ps ks:List Str}{sp:Sp}{E:XK}{x m:Str}{p pos apos kpos:Pos}{e o:Expr}{es:List Expr}{kws:List Keyword}{te ta:TE}{t tk:TA}{nm:Option Str}
theorem Zj1:PK X [] tNil:=λ_ _ _ _ H Q I h=>wpAny_evalAll_nil ⟨[],H,I,.nil,h⟩
theorem Zf4 (ha:PE X e te) (hr:PK X kws t):PK X (⟨nm,e,kpos⟩::kws) (tCons te t):=by
 intro pos pins s σ H Q I h
 show wpAny _ _ (evalAll ((do let v <-eval e X.env;standAt pos;pure v)::(backToKw pos (keywordEach kws X.env)).map (·.2))) _ _ s
 refine wpAny_evalAll_cons (Ya (thn (ha pins s σ H _ I h) λu s1 ⟨x,H1,I1,r1,q1⟩=>Ya (wpAny_standAt (Ye ?_))))
 exact thn (hr pos pins s1 σ H1 _ I1 q1) λus s2 ⟨xs,H2,I2,r2,q2⟩=>⟨x::xs,H2,I2,.cons r1 r2,q2⟩
variable {g:List Value->List Value->List Value}{gV:List V->List V->List V}
end
structure FnScope (N P:List Str) (sc:Scope):Prop where
 kind:sc.kind=.function
 co:sc.isCoroutine=false
 gen:sc.isGenerator=false
 nd:N.Nodup
 pre:N.take P.length=P
 par:∀x∈P,sc.names.lookup x=some .local\/sc.names.lookup x=some .cell
 nofree:∀y∈sc.names,y.2≠.free
theorem Zjv {kindOf:Str->Option NameKind}{x:Str}:∀{binds:List (Str×Value)}{m:Str->Option Value},(∀v,(x,v)∉binds)->bindL kindOf binds m x=m x
 |[],_,_=>rfl
 |(n,v)::r,m,h=>by
  unfold bindL
  rw[Zjv λw hw=>h w (YK _ hw)]
  split
  ·have:x≠n:=by rintro rfl;exact h v YO
   simp[this]
  ·rfl
theorem Zjw {kindOf:Str->Option NameKind}{x:Str}:∀{binds:List (Str×Value)}{m:Str->Option Value},(∀v,(x,v)∉binds)->bindC kindOf binds m x=m x
 |[],_,_=>rfl
 |(n,v)::r,m,h=>by
  unfold bindC
  rw[Zjw λw hw=>h w (YK _ hw)]
  split
  ·rfl
  ·have:x≠n:=by rintro rfl;exact h v YO
   simp[this]
theorem Zjx {kindOf:Str->Option NameKind}{x:Str}{v:Value}:∀{P:List Str}{vs:List Value}{i:Nat}{m:Str->Option Value},P.Nodup->P[i]?=some x->vs[i]?=some v->kindOf x=some .local ->
  bindL kindOf (P.zip vs) m x=some v
 |[],_,_,_,_,h,_,_=>by simp at h
 |_::_,[],_,_,_,_,h,_=>by simp at h
 |p::P,w::vs,0,m,nd,h1,h2,hk=>by
  simp at h1 h2;subst h1;subst h2
  show bindL kindOf ((p,w)::P.zip vs) m p=_
  unfold bindL
  rw[Zjv λv hv=>(List.nodup_cons.mp nd).1 (List.of_mem_zip hv).1,Yc hk]
  simp
 |p::P,w::vs,i+1,m,nd,h1,h2,hk=>by
  show bindL kindOf ((p,w)::P.zip vs) m x=_
  unfold bindL
  exact Zjx (i:=i) (List.nodup_cons.mp nd).2 (by simpa using h1) (by simpa using h2) hk
theorem Zjy {kindOf:Str->Option NameKind}{x:Str}{v:Value}:∀{P:List Str}{vs:List Value}{i:Nat}{m:Str->Option Value},P.Nodup->P[i]?=some x->vs[i]?=some v->kindOf x≠some .local ->
  bindC kindOf (P.zip vs) m x=some v
 |[],_,_,_,_,h,_,_=>by simp at h
 |_::_,[],_,_,_,_,h,_=>by simp at h
 |p::P,w::vs,0,m,nd,h1,h2,hk=>by
  simp at h1 h2;subst h1;subst h2
  show bindC kindOf ((p,w)::P.zip vs) m p=_
  unfold bindC
  rw[Zjw λv hv=>(List.nodup_cons.mp nd).1 (List.of_mem_zip hv).1,Yb hk]
  simp
 |p::P,w::vs,i+1,m,nd,h1,h2,hk=>by
  show bindC kindOf ((p,w)::P.zip vs) m x=_
  unfold bindC
  exact Zjy (i:=i) (List.nodup_cons.mp nd).2 (by simpa using h1) (by simpa using h2) hk
noncomputable def start (N:List Str) (vs:List V):St:=vs.map some++List.replicate (N.length-vs.length) none
noncomputable def Zf5 (CX:CXT) (P:Program) (w:World) (K:PySem.W.Frag) (mg:Str->Option Value) (base:Heap) (N:List Str) (qual:Str) (scope:Scope) (f:Addr) (cd:Value) (A:Around) (outer:List Env) (s:Shared) (H:Hp) (E:XK):Cx where
 prog:=P
 w:=w
 K:=K
 mg:=mg
 base:=base
 A:=A.deeper (envOfC qual scope s.heap.objs.size f cd)
 N:=N
 s₀:=s
 H₀:=H
 env:=envOfC qual scope s.heap.objs.size f cd
 outer:=outer
 stack:=envOfC qual scope s.heap.objs.size f cd::outer
 ex:=[]
 calm:=true
 fn:=λ_=>true
 pn:=[]
 xe:=λe s'=>wpAny (model P w) (A.deeper (envOfC qual scope s.heap.objs.size f cd)) (leaving (envOfC qual scope s.heap.objs.size f cd) e) (λ_ s''=>CX outer H s E e s'') (λe' s''=>CX outer H s E e' s'') s'
theorem ZkV {sc:Scope}{n:Nat}{x:Str} (h:sc.names.lookup x=some .cell):∃c,(cellsFrom n sc.names []).lookup x=some c:=by
 have q:=PySem.W.cellsFrom_some sc.names n [] (.inl h)
 exact Option.isSome_iff_exists.mp q
theorem Znd {CX:CXT}{P:Program}{w:World}{K:PySem.W.Frag}{mg:Str->Option Value}{base:Heap}{N ps:List Str}{qual:Str}{scope:Scope}{f:Addr}{cd:Value}{A:Around}{outer:List Env}{s s1:Shared}{H:Hp}{E:XK}{us:List Value}{vs:List V}
  (S:FnScope N ps scope) (hd:A.handled=none) (e0:Env0 P w K mg base A outer s H) (hl:vs.length=ps.length) (r:Vals vs us)
  (x:InCallC s s.heap.objs.size (bindL (envOfC qual scope s.heap.objs.size f cd).kindOf (ps.zip us) λ_=>none) (cellsFrom (s.heap.objs.size+1) scope.names []) (bindC (envOfC qual scope s.heap.objs.size f cd).kindOf (ps.zip us) λ_=>none) s1) :
  Inv (Zf5 CX P w K mg base N qual scope f cd A outer s H E) [] (start N vs) H s1:=by
 have hpl:ps.length<=N.length:=by have:=congrArg List.length S.pre;rw[YW]at this;omega
 obtain⟨h1,tk,rfl,hk⟩:=x.done
 have noA:∀b:Addr,b∉(Zf5 CX P w K mg base N qual scope f cd A outer s H E).ex:=λb z=>absurd (show b∈([]:List Addr)from z) (by simp)
 refine⟨⟨e0.mod,S.kind,rfl,rfl,Yd _,λy z c h1 h2=>?_,λy hy=>?_,λy c _ h=>?_,λ_=>hd,Around.frames_deeper e0.frames,.inr ⟨rfl,rfl⟩,λb z=>absurd z (noA b),e0.bs,e0.bsz,λb _ _=>noA b,λb z=>absurd z (noA b),e0.funs,e0.frf⟩,
  rfl,e0.bare,Un.kept hk,⟨_,x.toInCall.ns,λi y v h1 h2 h3=>?_⟩,λy c h=>⟨_,x.cell y c h⟩,e0.hok.fresh (Yd _),λy c h=>?_,λp hp=>absurd (show p∈([]:List (Addr×Obj))from hp) (by simp),e0.hok.kept hk,?_⟩
 ·exact name_of_addr x.apart (PySem.mem_of_lookup h1) (PySem.mem_of_lookup h2)
 ·have hy:scope.names.lookup y=some .cell\/scope.names.lookup y=some .free:=hy
  rcases hy with hy|hy
  ·exact ZkV hy
  ·exact absurd rfl (S.nofree _ (PySem.mem_of_lookup hy))
 ·exact YI (x.above y c (PySem.mem_of_lookup h))
 ·have hi:i<vs.length:=by
   unfold start at h2
   by_cases hi:i<vs.length
   ·exact hi
   ·rw[Y2 (by simpa using hi)]at h2
    rw[List.getElem?_replicate]at h2
    split at h2<;>cases h2
  have ha:vs[i]?=some v:=by
   unfold start at h2
   rw[YU (by simpa using hi),YC]at h2
   cases e:vs[i]? with
   |none=>rw[e]at h2;cases h2
   |some a=>rw[e]at h2;cases h2;rfl
  obtain⟨u,hu,rv⟩:=r.get ha
  have hp:ps[i]?=some y:=by
   rw[<-S.pre,List.getElem?_take_of_lt (by omega)];exact h1
  have ndP:ps.Nodup:=by rw[<-S.pre];exact S.nd.sublist (List.take_sublist _ _)
  refine⟨u,rv,?_⟩
  rcases S.par y (List.mem_of_getElem? hp)with k|k
  ·exact .inl ⟨k,Zjx ndP hp hu k⟩
  ·obtain⟨c,e⟩:=ZkV (n:=s.heap.objs.size+1) k
   refine .inr ⟨.inl k,c,e,?_⟩
   have q:=x.cell y c e
   rw[Zjy ndP hp hu (by show scope.names.lookup y≠_;rw[k];decide)]at q
   exact q
 ·exact e0.hok.fresh (YI (x.above y c (PySem.mem_of_lookup h)))
 ·unfold start
  show _=N.length
  rw[YD,Yh,List.length_replicate]
  omega
theorem fn_of {CX:CXT}{P:Program}{w:World}{K:PySem.W.Frag}{mg:Str->Option Value}{base:Heap}{k:Nat}{f:Addr}{name qual:Str}{params:Arguments}{body:List Stmt}{scope:Scope}{dV kV doc pm cdv ct oc:Value}{an od:Option Addr}
  {osl:Array (Option Value)}{N ps:List Str}{sp:Sp} (lk:K.lookup f=some ⟨oc,od,.func (PySem.W.fnOf name qual params body scope dV kV doc pm an cdv ct),osl⟩) (hcd:PySem.W.codeIn K cdv qual=true) (S:FnScope N ps scope)
  (len:∀vs H Q E,sp vs H Q E->vs.length=ps.length)
  (hbody:∀(A:Around) (outer:List Env) (s:Shared) (H:Hp) (vs:List V) (Q:VK) (E:XK),Room k (A.deeper (envOfC qual scope s.heap.objs.size f cdv))->sp vs H Q E ->
   ∃t,PSs (Zf5 CX P w K mg base N qual scope f cdv A outer s H E) body t/\t {nx:=λ_ H'=>Q .non H',rt:=Q} (start N vs) H) :
  FnOk P w K mg base CX (k+1) f (PySem.W.fnOf name qual params body scope dV kV doc pm an cdv ct) ps sp:=by
 refine⟨len,λA outer s H args us vs Q E hr e0 hb r hsp=>?_⟩
 have hl:=len _ _ _ _ hsp
 have KX:K.In s.heap:=e0.mod.kin.keeps λb o e=>(e0.bs b o e).1
 have lim:s.heap.NoLimit:=e0.mod.nolimit.keeps λb o e=>(e0.bs b o e).1
 have hkind:∀y∈ps.zip us,scope.names.lookup y.1=some .local\/(scope.names.lookup y.1=some .cell/\((cellsFrom (s.heap.objs.size+1) scope.names []).lookup y.1).isSome=true):=λ⟨n,v⟩ hy=>by
  rcases S.par n (List.of_mem_zip hy).1 with q|q
  ·exact .inl q
  ·exact .inr ⟨q,PySem.W.cellsFrom_some _ _ _ (.inl q)⟩
 refine codeAny_call_function hr.depth (KX _ _ lk) rfl S.co S.gen rfl (PySem.W.codeRec_of KX hcd) (hb _ _ _ _ ?_)
 refine wpAny_newFunctionEnv_cells S.kind hkind λenv he s1 x=>?_
 subst he
 refine⟨lim.keeps x.toInCall.keep,codeAny_func ?_⟩
 obtain⟨t,ht,hq⟩:=hbody A outer s H vs Q E (hr.deeper _) hsp
 have I:Inv (Zf5 CX P w K mg base N qual scope f cdv A outer s H E) [] (start N vs) H s1:=Znd S hr.hd e0 hl r x
 refine YB (ht [] s1 (start N vs) H _ I hq) (λfl s' hs=>?_) λe s' hs=>hs
 have fin:∀{σ':St}{H':Hp}{v:V}{u:Value},Inv (Zf5 CX P w K mg base N qual scope f cdv A outer s H E) [] σ' H' s'->RelV v u->Q v H'->CE outer P w H s Q u s' :=
  λ{σ' H' v u} J rv q=>⟨v,H',J.os,J.bare,J.base,J.hok,rv,q⟩
 cases fl with
 |ret u =>
  obtain⟨v,σ',H',J,rv,q⟩:=hs
  exact fin J rv q
 |next =>
  obtain⟨σ',H',J,q⟩:=hs
  exact fin (v:=V.non) (u:=Value.none) J rfl q
 |brk =>
  obtain⟨_,_,_,q⟩:=hs
  exact False.elim q
 |cont =>
  obtain⟨_,_,_,q⟩:=hs
  exact False.elim q
section
variable {X:Cx}{x:Str}{p pos:Pos}{e:Expr}{es:List Expr}{t:TA}{id T:String}{r:List V->Hp->VK->Prop}
noncomputable def tCB (r:List V->Hp->VK->Prop) (t:TA):TE:=fun σ H Q=>t σ H λvs H1=>r vs H1 Q
theorem Zi (hc:ZbL X (.builtin id) r) (hg:Gl X x) (hm:X.mg x=none) (hv:bootBuiltins x=some (.builtin id)) (ha:PA X (e::es) t) (hn:x≠"__name__":=by decide) (hdb:(x==("__debug__":Str))=false:=by decide)
  (he:starEach (e::es) X.env=(false,eval e X.env)::starEach es X.env:=by rfl) (hpl:(backTo pos (starEach es X.env)).any (·.1)=false:=by rfl):PE X (.Call (.Name x p) (e::es) [] pos) (tCB r t):=by
 intro pins s σ H Q I h
 refine wpAny_Call_Name_kw (ZaW I hg hm hv ?_ hn hdb)
 exact PyProof.Rows.callWith_builtin1 (thn (ha pos pins s σ H _ I h) λus s1 ⟨vs,H1,I1,r1,q1⟩=>hc pins s1 σ H1 vs us Q I1 r1 q1) he hpl
theorem ZaK (hc:ZbL X (.type T) r) (hg:Gl X x) (hm:X.mg x=none) (hv:bootBuiltins x=some (.type T)) (ha:PA X (e::es) t) (hn:x≠"__name__":=by decide) (hdb:(x==("__debug__":Str))=false:=by decide)
  (he:starEach (e::es) X.env=(false,eval e X.env)::starEach es X.env:=by rfl) (hpl:(backTo pos (starEach es X.env)).any (·.1)=false:=by rfl):PE X (.Call (.Name x p) (e::es) [] pos) (tCB r t):=by
 intro pins s σ H Q I h
 refine wpAny_Call_Name_kw (ZaW I hg hm hv ?_ hn hdb)
 exact PyProof.Rows.callWith_type1 (thn (ha pos pins s σ H _ I h) λus s1 ⟨vs,H1,I1,r1,q1⟩=>hc pins s1 σ H1 vs us Q I1 r1 q1) he hpl
end
end L2
namespace HT
open PySem PyProof.Rows
section
open PySem.SeqAt
open PySem.AutoSeq1 (wpAny_loadPart')
open PySem.MeetsSeq PySem.MeetsSeq2 PySem.MeetsSeq3
end
section
variable {prog:Program}{w:World}{A:Around}{E:Value->Shared->Prop}{s:Shared}
noncomputable def sIx (n d:Nat):Option Int->Nat
 |none=>d
 |some v=>if v<0 then (v+(n:Int)).toNat else min v.toNat n
end
end HT
namespace L2
open PySem PySem.Spec PyProof.Rows
noncomputable abbrev TO:=St->Hp->(Option Int->Hp->Prop)->Prop
noncomputable def PO (X:Cx) (e:Option Expr) (t:TO):Prop :=
 ∀(pins:List (Addr×Obj)) (s:Shared) (σ:St) (H:Hp) (Q:Option Int->Hp->Prop),Inv X pins σ H s->t σ H Q ->
  wpAny (model X.prog X.w) X.A (evalPart e X.env) (λu s'=>∃o H',Inv X pins σ H' s'/\IsPart u o/\Q o H') X.xe s
noncomputable def tNoPart:TO:=λ_ H Q=>Q none H
noncomputable def tPart (t:TE):TO:=fun σ H Q=>t σ H λx H1=>∃i,x=.int i/\Q (some i) H1
theorem intsAre_of {ns:List Int}:∀{us:List Value},Vals (ns.map V.int) us->IntsAre us ns:=by
 induction ns with
 |nil=>intro us r;rw[List.map_nil]at r;cases r;exact .nil
 |cons n ns ih =>
  intro us r
  rw[YF]at r
  cases r with
  |cons r1 r2 =>
   obtain⟨t,e⟩:=r1
   subst e
   exact .cons n t (ih r2)
section
variable {X:Cx}{e:Expr}{te:TE}{lo hi:Option Expr}{tl th:TO}{pos p2:Pos}
theorem ZhT:PO X none tNoPart:=by
 intro pins s σ H Q I h
 rw[evalPart_none]
 exact Ye ⟨none,H,I,.none,h⟩
theorem ZhU (h:PE X e te):PO X (some e) (tPart te):=by
 intro pins s σ H Q I hw
 rw[evalPart_some]
 refine thn (h pins s σ H _ I hw) λu s1 ⟨x,H1,I1,r1,q1⟩=>?_
 obtain⟨i,rfl,q⟩:=q1
 obtain⟨t,rfl⟩:=r1
 exact⟨some i,H1,I1,.int i t,q⟩
noncomputable def SlR (X:Cx) (r:V->Option Int->Option Int->Hp->VK->Prop):Prop :=
 ∀(pins:List (Addr×Obj)) (s:Shared) (σ:St) (H:Hp) (x:V) (v vl vu:Value) (lo hi:Option Int) (sl:Addr) (Q:VK),Inv X pins σ H s->RelV x v->s.heap.IsSliceOf sl vl vu .none->IsPart vl lo->IsPart vu hi->r x lo hi H Q ->
  ∃T id,typeLookup (.type T) "__getitem__"=pure (some (.builtin id))/\s.TypeIs v T/\wpAny (model X.prog X.w) X.A (getItem v (.ref sl)) (EP X pins σ Q) X.xe s
noncomputable def tSl (r:V->Option Int->Option Int->Hp->VK->Prop) (te:TE) (tl th:TO):TE:=fun σ H Q=>te σ H λx H1=>tl σ H1 λl H2=>th σ H2 λu H3=>r x l u H3 Q
theorem Zf6 {r:V->Option Int->Option Int->Hp->VK->Prop} (hr:SlR X r) (he:PE X e te) (hl:PO X lo tl) (hu:PO X hi th):PE X (.Subscript e (.Slice lo hi none p2) pos) (tSl r te tl th):=by
 intro pins s σ H Q I h
 refine Subscript_ (thn (he pins s σ H _ I h) λv s1 ⟨x,H1,I1,r1,q1⟩=>?_)
 refine wpAny_Slice (thn (hl pins s1 σ H1 _ I1 q1) λvl s2 ⟨l,H2,I2,pl,q2⟩=>thn (hu pins s2 σ H2 _ I2 q2) λvu s3 ⟨u,H3,I3,pu,q3⟩=>?_)
 rw[evalPart_none]
 refine Ye ?_
 have I4:Inv X pins σ H3 {s3 with heap:=s3.heap.push {cls:=.type "slice",data:=.fields #[vl,vu,.none]}}:=I3.kept (t':=s3.toks) λb ob q=>Yg _ q
 obtain⟨T,id,hT,ht,hg⟩:=hr pins {s3 with heap:=s3.heap.push {cls:=.type "slice",data:=.fields #[vl,vu,.none]}} σ H3 x v vl vu l u s3.heap.objs.size Q I4 r1 (Heap.IsSliceOf.new ..) pl pu q3
 show wpAny (model X.prog X.w) X.A (subscriptTail e (.Slice lo hi none p2) v (.ref s3.heap.objs.size)) (EP X pins σ Q) X.xe {s3 with heap:=s3.heap.push {cls:=.type "slice",data:=.fields #[vl,vu,.none]}}
 exact tail_any (ops:=[.ref s3.heap.objs.size,v]) ht hT hg (by with_unfolding_all rfl)
noncomputable def ZcV (xs:List V) (lo hi:Option Int):List V:=(xs.drop (HT.sIx xs.length 0 lo)).take (HT.sIx xs.length xs.length hi-HT.sIx xs.length 0 lo)
theorem Zed (xs:List V) (lo hi:Option Int):(ZcV xs lo hi).length<=xs.length:=by
 unfold ZcV
 rw[YW,Y7]
 omega
end
noncomputable def ixN (n:Nat) (i:Int):Option Nat:=if 0<=i then (if i<n then some i.toNat else none)else if -(n:Int)<=i then some (i+n).toNat else none
noncomputable def atI {α:Type} (xs:List α) (i:Int):Option α:=(ixN xs.length i).bind λj=>xs[j]?
theorem ZmK {n:Nat}{i:Int}{j:Nat} (h:ixN n i=some j):seqIndex? i n=some j/\j<n/\-(n:Int)<=i/\i<n:=by
 unfold ixN at h
 by_cases h0:0<=i
 ·rw[Yc h0]at h
  by_cases h1:i<n
  ·rw[Yc h1]at h
   have e:i.toNat=j:=Yy h
   exact⟨by rw[seqIndex_of h0 h1,e],by omega,by omega,h1⟩
  ·rw[Yb h1]at h;cases h
 ·rw[Yb h0]at h
  by_cases h1:-(n:Int)<=i
  ·rw[Yc h1]at h
   have e:(i+n).toNat=j:=Yy h
   exact⟨by rw[seqIndex_neg (by omega) h1,e],by omega,h1,by omega⟩
  ·rw[Yb h1]at h;cases h
theorem ZmL {α:Type}{xs:List α}{i:Int}{v:α} (h:atI xs i=some v):∃j,seqIndex? i xs.length=some j/\xs[j]?=some v/\j<xs.length/\-(xs.length:Int)<=i/\i<xs.length:=by
 unfold atI at h
 cases e:ixN xs.length i with
 |none=>rw[e]at h;cases h
 |some j =>
  rw[e]at h
  obtain⟨h1,h2,h3,h4⟩:=ZmK e
  exact⟨j,h1,h,h2,h3,h4⟩
theorem Zbk {α:Type}{xs:List α}{j:Nat}{v:α} (h:xs[j]?=some v):atI xs (j:Int)=some v:=by
 have hj:j<xs.length:=(Yp.mp h).1
 have e:ixN xs.length (j:Int)=some j:=by
  unfold ixN
  rw[Yc (by omega),Yc (by omega)];simp
 unfold atI;rw[e];exact h
noncomputable def Zra (b:Expr):Prop:=∀o i,subscripted b false o i=operate [o,i] (getItem o i)
noncomputable def IxR (X:Cx) (r:R2):Prop :=
 ∀(value slice:Expr) (pins:List (Addr×Obj)) (s:Shared) (σ:St) (H:Hp) (x y:V) (v u:Value) (Q:VK),Inv X pins σ H s->RelV x v->RelV y u->r x y H Q ->
  subscripted slice false v u=operate [v,u] (getItem v u)->wpAny (model X.prog X.w) X.A (subscriptTail value slice v u) (EP X pins σ Q) X.xe s
noncomputable def MtR (X:Cx) (id:String) (r:V->List V->Hp->VK->Prop):Prop :=
 ∀(pins:List (Addr×Obj)) (s:Shared) (σ:St) (H:Hp) (x:V) (xs:List V) (v:Value) (us:List Value) (Q:VK),Inv X pins σ H s->RelV x v->Vals xs us->r x xs H Q ->
  wpAny (model X.prog X.w) X.A (call (.builtin id) (v::us)) (EP X pins σ Q) X.xe s
section
variable {X:Cx}{a b:Expr}{ta tb:TE}{pos:Pos}
theorem IxR.or {r r':R2} (h:IxR X r) (h':IxR X r'):IxR X (λx y H Q=>r x y H Q\/r' x y H Q):=by
 intro value slice pins s σ H x y v u Q I rx ry q hs
 rcases q with q|q
 ·exact h value slice pins s σ H x y v u Q I rx ry q hs
 ·exact h' value slice pins s σ H x y v u Q I rx ry q hs
theorem ZF {r:R2} (hr:IxR X r) (ha:PE X a ta) (hb:PE X b tb) (hs:Zra b):PE X (.Subscript a b pos) (tOp r ta tb):=by
 intro pins s σ H Q I h
 exact Subscript_ (binT ha hb I h λv u s2 x y H2 I2 rx ry q=>hr a b pins s2 σ H2 x y v u Q I2 rx ry q (hs _ _))
noncomputable def rIxL (K:PySem.W.Frag):R2:=λx y H Q=>∃p xs i v,x=.ref p/\y=.int i/\SqL K H p xs/\atI xs i=some v/\Q v H
noncomputable def rIxT (K:PySem.W.Frag):R2:=λx y H Q=>∃p xs i v,x=.ref p/\y=.int i/\SqT K H p xs/\atI xs i=some v/\Q v H
theorem ZA:IxR X (rIxL X.K):=by
 intro value slice pins s σ H x y v u Q I rx ry h hs
 obtain⟨p,xs,i,z,rfl,rfl,hq,he,q⟩:=h
 cases rx
 obtain⟨t,rfl⟩:=ry
 obtain⟨its,r,pl,hz⟩:=I.list hq
 obtain⟨j,h1,h2,h3,h4,h5⟩:=ZmL he
 obtain⟨w,ew,rw'⟩:=r.get h2
 have hl:=r.length
 have hn:=Zh8
 have fin:EP X pins σ Q w s:=⟨z,H,I,rw',q⟩
 by_cases h0:0<=i
 ·have hj:i.toNat=j:=by
   rw[seqIndex_of h0 h5]at h1
   exact Yy h1
  exact item_listR pl.isList h0 (by omega) (by rw[hj];simpa using ew) fin hs
 ·have hj:(i+(its.toArray.size:Int)).toNat=j:=by
   rw[seqIndex_neg (by omega) h4]at h1
   rw[Yo,<-hl]
   exact Yy h1
  exact subscriptTail_builtinR (x:=w) pl.isList.typeIs slot_list_getitem.lookup
   (wpAny_getItem_list_neg (Q:=λr s'=>r=w/\EP X pins σ Q r s') pl.isList (by omega) (by rw[Yo]<;>omega) (by omega) (by rw[hj];simpa using ew) ⟨rfl,fin⟩) hs
theorem Zbz:IxR X (rIxT X.K):=by
 intro value slice pins s σ H x y v u Q I rx ry h hs
 obtain⟨p,xs,i,z,rfl,rfl,hq,he,q⟩:=h
 cases rx
 obtain⟨t,rfl⟩:=ry
 obtain⟨its,r,pl,hz⟩:=I.tuple hq
 obtain⟨j,h1,h2,h3,h4,h5⟩:=ZmL he
 obtain⟨w,ew,rw'⟩:=r.get h2
 have hl:=r.length
 have hn:=Zh8
 have fin:EP X pins σ Q w s:=⟨z,H,I,rw',q⟩
 exact subscriptTail_builtinR (x:=w) pl.typeIs slot_tuple_getitem.lookup
  (getItem_tuple (j:=j) (Q:=λr s'=>r=w/\EP X pins σ Q r s') pl (by omega) (by omega) (by rw[Yo,<-hl];exact h1) (by simpa using ew) ⟨rfl,fin⟩) hs
theorem Zl4 (its:List Value) (n j:Nat) (u:Value):Obj.mapSeq (·.setIfInBounds j u) {cls:=.type "list",data:=.seq its.toArray n}={cls:=.type "list",data:=.seq (its.set j u).toArray n}:=by
 simp[Obj.mapSeq]
theorem Inv.lst {pins:List (Addr×Obj)}{σ:St}{H:Hp}{s:Shared}{p:Addr}{xs:List V} (I:Inv X pins σ H s) (h:H p=some (.lst xs)) :
  ∃(its:List Value) (n:Nat),Vals xs its/\s.heap.get? p=some {cls:=.type "list",data:=.seq its.toArray n}/\xs.length<=sizeLine:=by
 obtain⟨z,its,n,r,e⟩:=I.hok p _ h
 exact⟨its,n,r,e,z⟩
theorem Inv.lstUpd {pins:List (Addr×Obj)}{σ:St}{H:Hp}{s:Shared}{p:Addr}{xs ys:List V}{its its':List Value}{n n':Nat}{f:Obj->Obj} (I:Inv X pins σ H s) (h:H p=some (.lst xs))
  (ho:s.heap.get? p=some {cls:=.type "list",data:=.seq its.toArray n}) (hf:f {cls:=.type "list",data:=.seq its.toArray n}={cls:=.type "list",data:=.seq its'.toArray n'}) (r:Vals ys its') (hz:ys.length<=sizeLine) (t:Nat) :
  Inv X pins σ (upd H p (.lst ys)) {s with heap:=s.heap.update p f,toks:=t}:=by
 have e:(s.heap.update p f).get? p=some {cls:=.type "list",data:=.seq its'.toArray n'}:=by
  rw[Heap.get?_update_self f ho (by rw[hf]<;>rfl),hf]
 refine I.write (x:=p) (e:=p) (by rw[h];trivial) (.inl rfl) (λb u hb q=>(Heap.get?_update_other _ _ (Ne.symm hb)).trans q) ⟨_,e⟩ ?_
 exact⟨hz,its',n',r,e⟩
noncomputable def rSetL:V->V->V->Hp->(Hp->Prop)->Prop:=λo i v H Q=>∃p xs k j,o=.ref p/\i=.int k/\H p=some (.lst xs)/\ixN xs.length k=some j/\Q (upd H p (.lst (xs.set j v)))
theorem set_list:PSet X rSetL:=by
 intro pins s σ H o i v ov iv u Q I ro ri rv h
 obtain⟨p,xs,k,j,rfl,rfl,hp,hj,q⟩:=h
 cases ro
 obtain⟨t,rfl⟩:=ri
 obtain⟨its,n,r,ho,hz⟩:=I.lst hp
 obtain⟨h1,h2,h3,h4⟩:=ZmK hj
 have hl:=r.length
 have hn:=Zh8
 have I':Inv X pins σ (upd H p (.lst (xs.set j v))) {s with heap:=s.heap.update p (Obj.mapSeq (·.setIfInBounds j u))} :=
  I.lstUpd hp ho (Zl4 its n j u) (r.set rv j) (by rw[List.length_set];exact hz) s.toks
 by_cases h0:0<=k
 ·have hk:k.toNat=j:=by
   rw[seqIndex_of h0 h4]at h1
   exact Yy h1
  exact PySem.W.ki_setAt ho h0 (by omega) (by rw[Yo,<-hl];exact h4) (by rw[hk];exact⟨_,I',q⟩)
 ·have hk:(k+(its.toArray.size:Int)).toNat=j:=by
   rw[seqIndex_neg (by omega) h3]at h1
   rw[Yo,<-hl]
   exact Yy h1
  exact PySem.W.ki_setBack ho (by omega) (by rw[Yo,<-hl];exact h3) (by omega) (by rw[hk];exact⟨_,I',q⟩)
theorem Zj2 (lo hi:Option Int) (n:Nat):(sliceBounds lo hi none n).1=((HT.sIx n 0 lo:Nat):Int)/\(sliceBounds lo hi none n).2.1=((HT.sIx n n hi:Nat):Int)/\(sliceBounds lo hi none n).2.2=1:=by
 refine⟨?_,?_,rfl⟩
 ·cases lo with
  |none=>simp[sliceBounds,HT.sIx]
  |some i =>
   simp only[sliceBounds,HT.sIx,Option.getD_none,show(1:Int)>0 by decide,if_true]
   by_cases h:i<0
   ·simp only[h,if_true]<;>omega
   ·simp only[h,if_false]<;>omega
 ·cases hi with
  |none=>simp[sliceBounds,HT.sIx]
  |some i =>
   simp only[sliceBounds,HT.sIx,Option.getD_none,show(1:Int)>0 by decide,if_true]
   by_cases h:i<0
   ·simp only[h,if_true]<;>omega
   ·simp only[h,if_false]<;>omega
theorem Zi8 (its:List Value) (lo hi:Option Int):slicePick its.toArray lo hi none=((its.drop (HT.sIx its.length 0 lo)).take (HT.sIx its.length its.length hi-HT.sIx its.length 0 lo)).toArray:=by
 obtain⟨h1,h2,h3⟩:=Zj2 lo hi its.toArray.size
 unfold slicePick
 rw[h1,h2,h3]
 simp only[sliceRange_one,pick_run,Yo]<;>rfl
noncomputable def rSlL (K:PySem.W.Frag):V->Option Int->Option Int->Hp->VK->Prop:=λx lo hi H Q=>∃a xs,x=.ref a/\SqL K H a xs/\∀p,H p=none->Q (.ref p) (upd H p (.lst (ZcV xs lo hi)))
theorem ZhV:SlR X (rSlL X.K):=by
 intro pins s σ H x v vl vu lo hi sl Q I rx hs pl pu h
 obtain⟨a,xs,rfl,hx,q⟩:=h
 cases rx
 obtain⟨its,r,ht,hz⟩:=I.list hx
 have hlen:=r.length
 refine⟨"list",_,slot_list_getitem.lookup,ht.isList.typeIs,?_⟩
 refine wpAny_getItem_list_slice ht.isList hs pl pu .none (by simp) ?_ (by rw[Yo]<;>omega)
 rw[Zi8,<-hlen]
 refine⟨.ref s.heap.objs.size,_,I.laid (t':=s.toks) (o:=.lst (ZcV xs lo hi)) (λb ob q=>Yg _ q) (Yd _) ?_,rfl,q _ (I.hok.fresh (Yd _))⟩
 exact⟨Yf (Zed xs lo hi) hz,_,0,(r.drop (HT.sIx xs.length 0 lo)).take (HT.sIx xs.length xs.length hi-HT.sIx xs.length 0 lo),Ym _ rfl⟩
noncomputable def flatV:V->Bool
 |.non=>true
 |.bl _=>true
 |.int _=>true
 |.str _=>true
 |_=>false
noncomputable def eqV:V->V->Bool
 |.non,.non=>true
 |.bl a,.bl b=>a==b
 |.bl a,.int b=>(if a then 1 else 0)==b
 |.int a,.bl b=>a==(if b then 1 else 0)
 |.int a,.int b=>a==b
 |.str a,.str b=>a==b
 |_,_=>false
theorem eqAt_V {A:Around}{s:Shared}{y x:V}{u v:Value} (ry:RelV y u) (rx:RelV x v) (fy:flatV y=true) (fx:flatV x=true):SeqAt.EqAt A s u v (eqV y x):=by
 cases y with
 |non =>
  cases ry
  cases x with
  |non=>cases rx;exact SeqAt.EqAt.same _
  |bl b=>cases rx;exact SeqAt.EqAt.none_bool b
  |int b=>obtain⟨t,rfl⟩:=rx;exact SeqAt.EqAt.none_int b t
  |str b=>obtain⟨t,rfl⟩:=rx;exact SeqAt.EqAt.none_str b t
  |_=>exact absurd (show false=true from fx) Yw
 |bl a =>
  cases ry
  cases x with
  |non=>cases rx;exact SeqAt.EqAt.bool_none a
  |bl b=>cases rx;exact SeqAt.EqAt.bool_bool a b
  |int b=>obtain⟨t,rfl⟩:=rx;exact SeqAt.EqAt.bool_int a b t
  |str b=>obtain⟨t,rfl⟩:=rx;exact SeqAt.EqAt.bool_str a b t
  |_=>exact absurd (show false=true from fx) Yw
 |int a =>
  obtain⟨t',rfl⟩:=ry
  cases x with
  |non=>cases rx;exact SeqAt.EqAt.int_none a t'
  |bl b=>cases rx;exact SeqAt.EqAt.int_bool a t' b
  |int b=>obtain⟨t,rfl⟩:=rx;exact SeqAt.EqAt.int_int a t' b t
  |str b=>obtain⟨t,rfl⟩:=rx;exact SeqAt.EqAt.int_str a t' b t
  |_=>exact absurd (show false=true from fx) Yw
 |str a =>
  obtain⟨t',rfl⟩:=ry
  cases x with
  |non=>cases rx;exact SeqAt.EqAt.str_none a t'
  |bl b=>cases rx;exact SeqAt.EqAt.str_bool a t' b
  |int b=>obtain⟨t,rfl⟩:=rx;exact SeqAt.EqAt.str_int a t' b t
  |str b=>obtain⟨t,rfl⟩:=rx;exact SeqAt.EqAt.str_str a t' b t
  |_=>exact absurd (show false=true from fx) Yw
 |_=>exact absurd (show false=true from fy) Yw
theorem Zj3:ZbL X (.builtin "len") (λxs H Q=>∃p ys,xs=[.ref p]/\(SqL X.K H p ys\/SqT X.K H p ys)/\Q (.int ys.length) H):=by
 intro pins s σ H xs us Q I r h
 obtain⟨p,ys,rfl,hq,q⟩:=h
 obtain⟨u,rfl,rx⟩:=vals1 r
 cases rx
 have hn:=Zh8
 rcases hq with hq|hq
 ·obtain⟨its,r',pl,hz⟩:=I.list hq
  have hlen:=r'.length
  exact Calls.call_len_list pl.isList (by simp only[Yo]<;>omega) ⟨.int ys.length,H,I.tok _,⟨s.toks+1,by rw[Yo,hlen]⟩,q⟩
 ·obtain⟨its,r',pl,hz⟩:=I.tuple hq
  have hlen:=r'.length
  exact len_tuple pl (by simp only[Yo]<;>omega) ⟨.int ys.length,H,I.tok _,⟨s.toks+1,by rw[Yo,hlen]⟩,q⟩
theorem Zj4:ZbL X (.type "list") (λxs H Q=>∃p ys,xs=[.ref p]/\(SqL X.K H p ys\/SqT X.K H p ys)/\∀l,H l=none->Q (.ref l) (upd H l (.lst ys))):=by
 intro pins s σ H xs us Q I r h
 obtain⟨p,ys,rfl,hq,q⟩:=h
 obtain⟨u,rfl,rx⟩:=vals1 r
 cases rx
 have fin:∀(its:List Value),Vals ys its->ys.length<=sizeLine->∀(h':Heap) (c':Nat),(∀b o',s.heap.get? b=some o'->h'.get? b=some o') ->
   h'.get? s.heap.objs.size=some {cls:=.type "list",dict:=none,data:=.seq its.toArray c',slots:=#[]}->EP X pins σ Q (.ref s.heap.objs.size) {s with heap:=h'}:=λits r' hz h' c' kp e =>
  ⟨.ref s.heap.objs.size,_,I.laid (t':=s.toks) kp (Yd _) (show ZS X.prog X.w _ h' _ (.lst ys)from⟨hz,its,c',r',e⟩),rfl,q _ (I.hok.fresh (Yd _))⟩
 rcases hq with hq|hq
 ·obtain⟨its,r',pl,hz⟩:=I.list hq
  have hlen:=r'.length
  obtain⟨o,ho,hc,n,hd⟩:=pl.isList
  exact call_list_seq p (.inl rfl) ho hc hd (λh' c' kp e=>fin its r' hz h' c' kp e) (by simp only[Yo]<;>omega)
 ·obtain⟨its,r',pl,hz⟩:=I.tuple hq
  have hlen:=r'.length
  obtain⟨o,ho,hc,n,hd⟩:=pl
  exact call_list_seq p (.inr rfl) ho hc hd (λh' c' kp e=>fin its r' hz h' c' kp e) (by simp only[Yo]<;>omega)
theorem Zi9:ZbL X (.type "tuple") (λxs H Q=>∃p ys,xs=[.ref p]/\((SqL X.K H p ys/\∀l,H l=none->Q (.ref l) (upd H l (.tup ys)))\/(SqT X.K H p ys/\Q (.ref p) H))):=by
 intro pins s σ H xs us Q I r h
 obtain⟨p,ys,rfl,h⟩:=h
 obtain⟨u,rfl,rx⟩:=vals1 r
 cases rx
 rcases h with⟨hq,q⟩|⟨hq,q⟩
 ·obtain⟨its,r',pl,hz⟩:=I.list hq
  have hlen:=r'.length
  refine call_tuple_list pl.isList (λh' kp=>?_) (by simp only[Yo]<;>omega)
  have I1:Inv X pins σ H {s with heap:=h'}:=I.kept (t':=s.toks) kp
  have I2:Inv X pins σ (upd H h'.objs.size (.tup ys)) {s with heap:=h'.push {cls:=.type "tuple",data:=.seq its.toArray}} :=
   I1.laid (t':=s.toks) (λb o e=>Yg _ e) (Yd _) (show ZS X.prog X.w _ _ _ (.tup ys)from⟨hz,its,r',IsTup.new _ _⟩)
  exact⟨.ref h'.objs.size,_,I2,rfl,q _ (I1.hok.fresh (Yd _))⟩
 ·obtain⟨its,r',pl,hz⟩:=I.tuple hq
  exact call_tuple_same pl ⟨.ref p,H,I,rfl,q⟩
noncomputable def tyV (K:PySem.W.Frag) (T:String) (x:V) (H:Hp):Prop:=match x with
 |.str _=>T="str"
 |.int _=>T="int"
 |.ref p=>(T="list"/\∃xs,SqL K H p xs)\/(T="tuple"/\∃o,K.lookup p=some o/\o.cls=.type "tuple"/\o.dict=none) \/
   (T="dict"/\((∃kvs,H p=some (.dK kvs))\/∃kvs,H p=some (.dT kvs)))\/(T="set"/\∃S n,H p=some (.set S n))
 |_=>False
theorem tyV_is {pins:List (Addr×Obj)}{σ:St}{H:Hp}{s:Shared}{T:String}{x:V}{v:Value} (I:Inv X pins σ H s) (r:RelV x v) (ty:tyV X.K T x H) :
  s.TypeIs v T/\∀a,v=.ref a->∃ob,s.heap.get? a=some ob/\ob.dict=none:=by
 cases x with
 |str z =>
  obtain⟨t,rfl⟩:=r
  cases(show T="str" from ty)
  exact⟨typeIs_str s z t,λ_ e=>nomatch e⟩
 |int i =>
  obtain⟨t,rfl⟩:=r
  cases(show T="int" from ty)
  exact⟨typeIs_int s i t,λ_ e=>nomatch e⟩
 |ref p =>
  cases r
  rcases ty with⟨rfl,xs,hq⟩|⟨rfl,o,hk,hc,hd⟩|⟨rfl,hk⟩|⟨rfl,S,n,hk⟩
  ·obtain⟨its,_,pl,_⟩:=I.list hq
   refine⟨pl.isList.typeIs,λa e=>?_⟩
   cases e
   obtain⟨o,n,e,c,hd,_⟩:=pl
   exact⟨o,e,hd⟩
  ·refine⟨⟨o,I.kIn p o hk,hc⟩,λa e=>?_⟩
   cases e
   exact⟨o,I.kIn _ o hk,hd⟩
  ·have z:∃o,s.heap.get? p=some o/\o.ExactDict:=by
    rcases hk with⟨kvs,hk⟩|⟨kvs,hk⟩
    ·obtain⟨_,_,_,_,o,_,_,e,ex,_⟩:=I.hok p _ hk
     exact⟨o,e,ex⟩
    ·obtain⟨_,_,_,_,o,_,_,e,ex,_⟩:=I.hok p _ hk
     exact⟨o,e,ex⟩
   obtain⟨o,e,ex⟩:=z
   refine⟨⟨o,e,ex.1⟩,λa e2=>?_⟩
   cases e2
   exact⟨o,e,ex.2.1⟩
  ·obtain⟨o,_,_,_,e,ex,_⟩:=I.hok p _ hk
   refine⟨⟨o,e,ex.1⟩,λa e2=>?_⟩
   cases e2
   exact⟨o,e,ex.2.1⟩
 |_=>exact False.elim ty
noncomputable def tBM (K:PySem.W.Frag) (T:String) (r:V->List V->Hp->VK->Prop) (to:TE) (t:TA):TE:=fun σ H Q=>to σ H λx H1=>tyV K T x H1/\t σ H1 λxs H2=>r x xs H2 Q
variable {o e:Expr}{es:List Expr}{to:TE}{t:TA}{name:Str}{apos cpos:Pos}{T id:String}{r:V->List V->Hp->VK->Prop}
theorem Zcl (pa:PlainAttrs T) (slot:Slot T name id) (hty:typeOf (.builtin id)=pure (.type "method_descriptor")) (hm:MtR X id r) (ho:PE X o to) (ha:PA X (e::es) t)
  (hbase:attributeBase o name X.env (eval o X.env)=eval o X.env:=by rfl)
  (hfew:((backTo cpos (starEach (e::es) X.env)).all (λx=>!x.1)&&(backToKw cpos (keywordEach [] X.env)).all (λx=>x.1.isSome)
   && decide ((e::es).length+([]:List Keyword).length+(if ([]:List Keyword).isEmpty then 0 else 1)<30))=true:=by rfl)
  (hline:(apos.endLine==cpos.line)=true:=by rfl) (hs:starEach (e::es) X.env=(false,eval e X.env)::starEach es X.env:=by rfl) (hplain:(backTo cpos (starEach es X.env)).any (·.1)=false:=by rfl) :
  PE X (.Call (.Attribute o name apos) (e::es) [] cpos) (tBM X.K T r to t):=by
 intro pins s σ H Q I h
 refine wpAny_Call_method_late hbase hfew hline rfl (thn (ho pins s σ H _ I h) λv s1 ⟨x,H1,I1,r1,ty,q1⟩=>?_)
 obtain⟨h1,h2⟩:=tyV_is I1 r1 ty
 refine⟨T,id,pa,slot,hty,h1,h2,?_⟩
 have hA:=ha cpos pins s1 σ H1 _ I1 q1
 rw[hs]at hA⊢
 refine Calls.callWith_builtin (by show(false||(backTo cpos (starEach es X.env)).any (·.1))=false;rw[hplain]<;>rfl) (Calls.evalArgs_plain ?_)
 exact thn hA λus s2 ⟨vs,H2,I2,r2,q2⟩=>hm pins s2 σ H2 x vs v us Q I2 r1 r2 q2
end
noncomputable def MtM (X:Cx) (id:String) (r:V->List V->Hp->VK->Prop):Prop :=
 ∀(pins:List (Addr×Obj)) (s:Shared) (σ:St) (H:Hp) (x:V) (xs:List V) (v:Value) (us:List Value) (Q:VK),Inv X pins σ H s->RelV x v->Vals xs us->r x xs H Q ->
  wpAny (model X.prog X.w) X.A (call (.builtin id) (v::us)) (EP X pins σ Q) X.xe s
theorem Vals.one:∀{x:V}{us:List Value},Vals [x] us->∃u,us=[u]/\RelV x u
 |_,_,.cons r .nil=>⟨_,rfl,r⟩
theorem Vals.two:∀{x y:V}{us:List Value},Vals [x,y] us->∃u v,us=[u,v]/\RelV x u/\RelV y v
 |_,_,_,.cons r (.cons q .nil)=>⟨_,_,rfl,r,q⟩
theorem Vals.eraseIdx:∀{xs:List V}{us:List Value} (i:Nat),Vals xs us->Vals (xs.eraseIdx i) (us.eraseIdx i)
 |_,_,_,.nil=>.nil
 |_,_,0,.cons _ t=>t
 |_,_,i+1,.cons r t=>.cons r (Vals.eraseIdx i t)
theorem Vals.rep {xs:List V}{us:List Value} (h:Vals xs us):∀k:Nat,Vals (List.replicate k xs).flatten (List.replicate k us).flatten
 |0=>.nil
 |k+1=>by
  rw[List.replicate_succ,List.replicate_succ,List.flatten_cons,List.flatten_cons]
  exact Vals.append h (Vals.rep h k)
theorem Zjz {α:Type}:∀(l:List α) (i:Nat),(l.eraseIdx i).length<=l.length
 |[],_=>Yd _
 |_::_,0=>YT _
 |_::r,i+1=>Nat.succ_le_succ (Zjz r i)
theorem foldl_rep (its:List Value):∀(k:Nat) (acc:List Value),
  List.foldl (λx1 x2=>x1++x2) acc.toArray (List.replicate k its.toArray)=(acc++(List.replicate k its).flatten).toArray
 |0,acc=>by simp
 |k+1,acc=>by
  have e:acc.toArray++its.toArray=(acc++its).toArray:=by simp
  have e2:(acc++its)++(List.replicate k its).flatten=acc++(List.replicate (k+1) its).flatten:=by
   rw[List.replicate_succ,List.flatten_cons,YX]
  rw[<-e2,<-foldl_rep its k (acc++its),<-e,List.replicate_succ,List.foldl_cons]
section
variable {X:Cx}{pins:List (Addr×Obj)}{σ:St}{H:Hp}{s:Shared}{l b:Addr}{xs ys zs:List V}
theorem Inv.lset {its its':List Value}{n:Nat}{f:Array Value->Array Value}{t':Nat} (I:Inv X pins σ H s) (hH:H l=some (.lst xs))
  (e:s.heap.get? l=some {cls:=.type "list",data:=.seq its.toArray n}) (hf:f its.toArray=its'.toArray) (hv:Vals ys its') (hz:ys.length<=sizeLine) :
  Inv X pins σ (upd H l (.lst ys)) {s with heap:=s.heap.update l (Obj.mapSeq f),toks:=t'}:=by
 have q:=PySem.IsL.update e f
 rw[hf]at q
 refine I.write (x:=l) (e:=l) (by rw[hH];exact trivial) (.inl rfl) (λb' u hb hu=>(Heap.get?_update_other s.heap (Obj.mapSeq f) (Ne.symm hb)).trans hu) ⟨_,q⟩ ?_
 exact⟨hz,its',_,hv,q⟩
theorem Inv.lnew {its:List Value}{t':Nat} (I:Inv X pins σ H s) (hv:Vals ys its) (hz:ys.length<=sizeLine) :
  Inv X pins σ (upd H s.heap.objs.size (.lst ys)) {s with heap:=s.heap.push {cls:=.type "list",data:=.seq its.toArray},toks:=t'} :=
 I.laid (λ_ _ q=>Yg _ q) (Yd _) ⟨hz,its,0,hv,Ym _ rfl⟩
theorem Inv.fresh (I:Inv X pins σ H s):H s.heap.objs.size=none:=I.hok.fresh (Yd _)
theorem Inv.Zja (I:Inv X pins σ H s) (hH:H l=some (.lst xs)):xs.length<=sizeLine/\∃(its:List Value) (n:Nat),Vals xs its/\xs.length=its.length/\s.heap.get? l=some {cls:=.type "list",data:=.seq its.toArray n}:=by
 obtain⟨z,its,n,r,e⟩:=I.hok l _ hH
 exact⟨z,its,n,r,r.length,e⟩
theorem Zia {n:Nat} (h:n<=sizeLine):Builtin.List.listTooLong n=false:=by
 unfold Builtin.List.listTooLong
 exact YJ (by omega)
end
section
variable {X:Cx}
noncomputable def rAppend:V->List V->Hp->VK->Prop:=λx vs H Q=>∃l xs y,x=.ref l/\vs=[y]/\H l=some (.lst xs)/\xs.length<sizeLine/\Q .non (upd H l (.lst (xs++[y])))
theorem ZaL:MtM X "list.append" rAppend:=by
 intro pins s σ H x vs v us Q I rx rv h
 obtain⟨l,xs,y,rfl,rfl,hH,hz,q⟩:=h
 cases rx
 obtain⟨u,rfl,ru⟩:=rv.one
 obtain⟨z,its,n,r,hl,e⟩:=I.Zja hH
 refine call_meets F.slot_list_append ⟨_,e,rfl⟩ F.entry_list_append (F.args_list_append_2 _ _) (PySem.list_append l its.toArray n u (by rw[Yo];omega)) ⟨e,?_⟩
 refine⟨.non,_,I.lset (its':=its++[u]) hH e (by simp) (r.append (.cons ru .nil)) ?_,rfl,q⟩
 rw[YD,List.length_singleton]
 omega
noncomputable def rPopAt:V->List V->Hp->VK->Prop:=λx vs H Q=>∃l xs i k y,x=.ref l/\vs=[.int i]/\H l=some (.lst xs)/\-(2 ^ 63)<=i/\i<2 ^ 63/\seqIndex? i xs.length=some k/\xs[k]?=some y/\Q y (upd H l (.lst (xs.eraseIdx k)))
theorem ZoW:MtM X "list.pop" rPopAt:=by
 intro pins s σ H x vs v us Q I rx rv h
 obtain⟨l,xs,i,k,y,rfl,rfl,hH,h1,h2,hk,hy,q⟩:=h
 cases rx
 obtain⟨u,rfl,ru⟩:=rv.one
 obtain⟨t,rfl⟩:=ru
 obtain⟨z,its,n,r,hl,e⟩:=I.Zja hH
 obtain⟨w,hw,rw'⟩:=r.get hy
 refine call_meets F.slot_list_pop ⟨_,e,rfl⟩ F.entry_list_pop (F.args_list_pop_2 _ _)
  (MeetsSeq.list_pop_at l its.toArray n i t k w (fitsIndex_both h1 h2) (by rw[Yo,<-hl];exact hk) (by rw[<-Array.getElem?_toList];exact hw) (by rw[Yo];omega)) ⟨e,?_⟩
 refine⟨y,_,I.lset (its':=its.eraseIdx k) hH e ?_ (r.eraseIdx k) ?_,rw',q⟩
 ·show its.toArray.eraseIdxIfInBounds k=(its.eraseIdx k).toArray
  rw[List.eraseIdxIfInBounds_toArray]
 ·have:=Zjz xs k
  omega
noncomputable def rCat:R2:=λx y H Q=>∃l b xs zs,x=.ref l/\y=.ref b/\H l=some (.lst xs)/\H b=some (.lst zs)/\xs.length+zs.length<=sizeLine/\∀p,H p=none->Q (.ref p) (upd H p (.lst (xs++zs)))
theorem Zib:OpR X (binaryOp .Add) rCat:=by
 intro pins s σ H x y v u Q I rx ry h
 obtain⟨l,b,xs,zs,rfl,rfl,hH,hB,hz,q⟩:=h
 cases rx
 cases ry
 obtain⟨z,its,n,r,hl,e⟩:=I.Zja hH
 obtain⟨z2,its2,n2,r2,hl2,e2⟩:=I.Zja hB
 refine PySem.P.add_list e e2 ?_ (by rw[Yo,Yo];omega)
 have ea:its.toArray++its2.toArray=(its++its2).toArray:=by simp
 rw[ea]
 exact⟨.ref _,_,I.lnew (t':=s.toks) (r.append r2) (by rw[YD];omega),rfl,q _ I.fresh⟩
noncomputable def rRep:R2:=λx y H Q=>∃l k xs,x=.ref l/\y=.int k/\H l=some (.lst xs)/\-(2 ^ 63)<=k/\k<2 ^ 63/\xs.length*k.toNat<=sizeLine /\
 ∀p,H p=none->Q (.ref p) (upd H p (.lst (List.replicate k.toNat xs).flatten))
theorem len_rep {α:Type} (xs:List α) (k:Nat):(List.replicate k xs).flatten.length=k*xs.length:=by
 induction k with
 |zero=>simp
 |succ k ih=>rw[List.replicate_succ,List.flatten_cons,YD,ih,Nat.succ_mul,Nat.add_comm]
theorem ZfG:OpR X (binaryOp .Mult) rRep:=by
 intro pins s σ H x y v u Q I rx ry h
 obtain⟨l,k,xs,rfl,rfl,hH,h1,h2,hz,q⟩:=h
 cases rx
 obtain⟨t,rfl⟩:=ry
 obtain⟨z,its,n,r,hl,e⟩:=I.Zja hH
 have hlen:its.toArray.size*k.toNat<=sizeLine:=by rw[Yo,<-hl];exact hz
 have hcap:¬ its.toArray.size*k.toNat>(2 ^ 63-1) / 8:=by
  have:(sizeLine:Nat)<=(2 ^ 63-1) / 8:=by decide
  omega
 have hfit:¬ (!Builtin.List.listFitsIndex k)=true:=by
  rw[fitsIndex_both h1 h2]
  exact Yw
 have hlong:¬ Builtin.List.listTooLong (its.toArray.size*k.toNat)=true:=by
  rw[Zia hlen]
  exact Yw
 have hnew:List.foldl (λx1 x2=>x1++x2) #[] (List.replicate (if its.toArray.isEmpty=true then 0 else k.toNat) its.toArray)=(List.replicate k.toNat its).flatten.toArray:=by
  have f0:∀m:Nat,List.foldl (λx1 x2=>x1++x2) #[] (List.replicate m its.toArray)=(List.replicate m its).flatten.toArray:=λm=>by
   have:=foldl_rep its m []
   rw[List.nil_append]at this
   exact this
  rw[f0]
  cases its with
  |nil=>simp
  |cons a r'=>rw[Yb (by simp)]
 refine wpAny_binaryOp_repeat_ref (T:="list") (U:="int") (by decide) ⟨_,e,rfl⟩ (λs'=>typeIs_int s' k t) noFill_list_mul F.fills_int_mul F.slot_int_rmul repeat_list F.slot_int_index.lookup
  (call_meets F.slot_int_rmul (typeIs_int s k t) F.entry_int_rmul (F.args_int_rmul_2 _ _) (int___rmul___int_list k t l its.toArray n)
   ⟨e,rfl,⟨_,e,rfl⟩,call_meets F.slot_list_mul ⟨_,e,rfl⟩ F.entry_list_mul (F.args_list_mul_2 _ _) (AutoListH.list___mul___list_int_3 l its.toArray n k t hfit hcap hlong) ⟨e,?_⟩⟩)
 rw[hnew]
 exact⟨.ref _,_,I.lnew (t':=s.toks) (r.rep k.toNat) (by rw[len_rep,Nat.mul_comm];exact hz),rfl,q _ I.fresh⟩
end
section
variable {prog:Program}{w:World}{A:Around}{E:Value->Shared->Prop}{s:Shared}
theorem Zne (its its2 : List Value) (a c : Nat) : its.toArray.extract 0 a ++ its2.toArray ++ its.toArray.extract c its.toArray.size = (its.take a ++ its2 ++ its.drop c).toArray := by
  apply Array.toList_inj.mp
  first
    | (simp
       exact List.take_of_length_le (by simp))
    | simp [List.take_of_length_le]
    | simp
end
end L2
namespace Att
open PySem PySem.W PySem.Calls PyProof.Rows
theorem ZhG {P:Params}{h:Heap}:∀(ns:List Int) (vs:List Value),WellAll P h vs (ns.map WData.int)->IntsAre vs ns:=by
 intro ns
 induction ns with
 |nil =>
  intro vs w
  rw[List.map_nil]at w
  cases w
  exact .nil
 |cons n ns ih =>
  intro vs w
  rw[YF]at w
  cases w with
  |cons a b =>
   cases a
   exact .cons _ _ (ih _ b)
theorem Znf {l:OpenLaw}{n:Nat} (hn:l.most=some n) {P:Params}{h:Heap}{args:List WData}{vals:List Value}
  (hpre:l.row.toRowW.claim.pre args=true) (hwl:WellAll P h vals args) :
  ∃a vs ns,vals=[Value.ref a]/\args=[WData.list (ns.map WData.int)]/\h.get? a=some {cls:=.type "list",data:=.seq vs.toArray}/\IntsAre vs ns/\ns.length<=n:=by
 have hsh:WShape.hasAll [] args [.list .int]=true:=(pre_splitW hpre).1
 have hc:l.pre.holds [] {args:=args}=true:=(pre_splitW hpre).2
 obtain⟨d,r,rfl,h1,h2⟩:=hasAllW_cons hsh
 obtain rfl:=hasAllW_nil h2
 obtain⟨xs,rfl,h3⟩:=hasW_list h1
 obtain⟨ns,rfl⟩:=items_int h3
 have hlen:ns.length<=n:=by
  unfold OpenLaw.pre at hc
  have h4:(WTm.not (.lt (.lit (.int (n:Int))) (.len (.arg 0)))).holds [] {args:=[.list (ns.map .int)]}=true:=by
   have h4:=(holds_andW hc).1
   rw[hn]at h4
   exact h4
  have h5:=condW_of h4 (w_not (w_lt w_lit (w_len_list (w_arg rfl))))
  rw[Yh]at h5
  refine Nat.le_of_not_lt λq=>?_
  have q':(n:Int)<((ns.length:Nat):Int):=by omega
  first
   |(rw[YL q']at h5;exact absurd h5 (by decide))
   |(simp at h5;omega)
 cases hwl with
 |cons w1 w2 =>
  cases w2
  cases w1 with
  |list ho hall=>exact⟨_,_,ns,rfl,rfl,ho,ZhG ns _ hall,hlen⟩
theorem Zng (l:OpenLaw) (args:List WData):l.row.toRowW.claim.post args (.bool true) args=true :=
 postW_of (r:=l.row.toRowW) (X:=(true==true))
  (show WShape.has [] (.bool true) .bool=true by first|rfl|decide|simp[WShape.has,WShape.arms,WShape.armsAll])
  (show(WTm.eq .res (.lit (.bool true))).value [] {args:=args,res:=some (.bool true),after:=args}=some (.bool (true==true))from w_eq_bool (w_res rfl) w_lit) rfl
theorem ZkW {l:OpenLaw}{n:Nat}{q:Program}{loose:List Str}{XP:(Str->Option Value)->Heap->Prop}{YP:World->Heap->Prop}{d:DefRec}
  (hn:l.most=some n) (hdf:d.params.defaults=[])
  (call:∀(w:World) (s₀ s₁:Shared) (mg mb:Str->Option Value) (fa:Addr) (o:Obj) (pm cd doc:Value) (a:Addr) (vs:List Value) (ns:List Int),
   Ground q loose [] XP w s₀ mg mb s₁.heap->YP w s₁.heap ->
   s₁.heap.get? fa=some o->o.data=.func (docDef d.name d.params d.body d.scope pm cd doc)->s₁.heap.CodeRec cd d.name->mg d.name=some (.ref fa) ->
   s₁.heap.get? a=some {cls:=.type "list",data:=.seq vs.toArray}->IntsAre vs ns->ns.length<=n->s₁.gens=#[] ->
   codeAny (model l.prog w) callerA (.call (.ref fa) ⟨[.ref a],[]⟩) (λr s'=>r=.ok (.ret (.bool true))/\OldK s₁.heap s'.heap/\s'.os=s₁.os/\AllBare s'.gens) s₁) :
  WalkO q loose XP YP l.row.toRowW d [] (λf vs=>PySem.call f vs):=by
 intro w s₀ s₁ mg mb G Y fa o pm cd doc dV kV ho hd hcd hD hmg hg args vals as hpre hlay hrd hwl hlo
 obtain rfl:dV=.none:=Dflts.none hD hdf
 obtain rfl:kV=.none:=Dflts.noKw hD
 obtain⟨a,vs,ns,rfl,rfl,hobj,hints,hlen⟩:=Znf hn hpre hwl
 refine enter_call (codeAny_mono (call w s₀ s₁ mg mb fa o pm cd doc a vs ns G Y ho (fd_plain hd) hcd hmg hobj hints hlen hg) λr s' hq=>?_)
 obtain⟨rfl,h2,h3,h4⟩:=hq
 exact⟨.inl ⟨.bool true,.bool true,[],rfl,λ_=>rfl,.bool true,Zng l _,λ_=>⟨List.Pairwise.nil,λ_ hm=>(nomatch hm)⟩⟩,h2,h3,h4⟩
end Att
namespace L2
open PySem PySem.Spec PyProof.Rows
theorem ZgJ:∀{vs:List Value}{ns:List Int},IntsAre vs ns->Vals (ns.map V.int) vs
 |_,_,.nil=>.nil
 |_,_,.cons n t h=>.cons ⟨t,rfl⟩ (ZgJ h)
noncomputable def inClass (s:Stmt) (j:Nat):Stmt:=match s with
 |.ClassDef _ _ _ body _ _ _ _ _ _ _=>body.getD j (.Pass ⟨0,0,0,0⟩)
 |_=>.Pass ⟨0,0,0,0⟩
noncomputable def defArgs (s:Stmt):Arguments:=match s with
 |.FunctionDef _ a _ _ _ _ _ _ _ _=>a
 |_=>{posonlyargs:=[],args:=[],vararg:=none,kwonlyargs:=[],kw_defaults:=[],kwarg:=none,defaults:=[]}
noncomputable def defBody (s:Stmt):List Stmt:=match s with
 |.FunctionDef _ _ b _ _ _ _ _ _ _=>b
 |_=>[]
noncomputable def defScope (s:Stmt):Scope:=match s with
 |.FunctionDef _ _ _ _ _ _ sc _ _ _=>sc
 |_=>{kind:=.function,names:=[],isGenerator:=false,isCoroutine:=false}
noncomputable abbrev E0:XK:=λ_ _ _=>False
structure Fun (K:PySem.W.Frag) (x qual:Str) (st:Stmt) (f:Addr) (fd:FuncData):Prop where
 ex:∃(oc:Value) (od:Option Addr) (kV doc pm:Value) (an:Option Addr) (cdv ct:Value) (osl:Array (Option Value)),
  fd=PySem.W.fnOf x qual (defArgs st) (defBody st) (defScope st) .none kV doc pm an cdv ct/\K.lookup f=some ⟨oc,od,.func fd,osl⟩/\PySem.W.codeIn K cdv qual=true
 kp:PySem.W.keepIn K (.ref f)=true
section
variable {P:Program}{w:World}{K:PySem.W.Frag}{mg:Str->Option Value}{base:Heap}
theorem Fun.binds {x qual:Str}{st:Stmt}{f:Addr}{fd:FuncData}{ps:List Str} (F:Fun K x qual st f fd)
  (h:∀(kV doc pm:Value) (an:Option Addr) (cdv ct:Value) (us:List Value),us.length=ps.length->bindArgs (PySem.W.fnOf x qual (defArgs st) (defBody st) (defScope st) .none kV doc pm an cdv ct) ⟨us,[]⟩=pure (ps.zip us)):Binds K fd ps []:=by
 obtain⟨oc,od,kV,doc,pm,an,cdv,ct,osl,rfl,lk,hcd⟩:=F.ex
 exact .all (h kV doc pm an cdv ct)
theorem ZC {x qual:Str}{st:Stmt}{f:Addr}{oc:Value}{od an:Option Addr}{osl:Array (Option Value)}{kV doc pm cdv ct:Value} (l:K.lookup f=some ⟨oc,od,.func (PySem.W.fnOf x qual (defArgs st) (defBody st) (defScope st) .none kV doc pm an cdv ct),osl⟩)
  (c:PySem.W.codeIn K cdv qual=true) (k:PySem.W.keepIn K (.ref f)=true):Fun K x qual st f (PySem.W.fnOf x qual (defArgs st) (defBody st) (defScope st) .none kV doc pm an cdv ct):=⟨⟨oc,od,kV,doc,pm,an,cdv,ct,osl,rfl,l,c⟩,k⟩
end
theorem ZoX {A:Around}{k:Nat} (hr:Room k A):A.units+1<cLine:=Yu (Nat.add_le_add_left (by decide:1<=64) _) hr.units
section
variable {X:Cx}
theorem pv (i:Nat) {x:Str}{pos:Pos} (hN:X.N[i]?=some x:=by rfl) (hv:Vis X.env.scope x:=by first|exact Or.inl rfl|exact Or.inr (Or.inl rfl)|exact Or.inr (Or.inr rfl)) (hd:(x==("__debug__":Str))=false:=by decide)
  (hcd:(x==("__classdict__":Str))=false:=by decide):PE X (.Name x pos) (tVar i):=pe_var hN hv hd hcd
end
theorem iteT {A B:Prop} (h:A):if true=true then A else B:=by
 rw[Yc rfl]
 exact h
theorem ZE {c A B:Prop} [Decidable c] (h1:c->A) (h2:¬ c->B):if c then A else B:=by
 by_cases h:c
 ·rw[Yc h]
  exact h1 h
 ·rw[Yb h]
  exact h2 h
noncomputable def Zg (H H':Hp):Prop:=∀b o,H b=some o->H' b=some o
theorem Zg.refl (H:Hp):Zg H H:=λ_ _ h=>h
theorem Zg.trans {H H1 H2:Hp} (a:Zg H H1) (b:Zg H1 H2):Zg H H2:=λc o h=>b c o (a c o h)
theorem Zg.free {H H':Hp} (e:Zg H H') {l:Addr} (h:H' l=Option.none):H l=Option.none:=by
 cases q:H l with
 |none=>rfl
 |some o =>
  rw[e l o q]at h
  cases h
theorem Zg.seq {K:PySem.W.Frag}{H H':Hp}{a:Addr}{xs:List V} (e:Zg H H') (h:SqL K H a xs):SqL K H' a xs:=by
 rcases h with(h|⟨o,h⟩)|h
 ·exact .inl (.inl (e _ _ h))
 ·exact .inl (.inr ⟨o,e _ _ h⟩)
 ·exact .inr h
theorem Zdu {env:Env}:∀(names:List (Str×NameKind)) (cs0:List (Str×Addr)),(∀y∈names,y.2=.free->∃c,env.cells.lookup y.1=some c) ->
  ∃cl,(forIn names cs0 (λ(x:Str×NameKind) r=>(do
   match x with
   |(name,kind)=>if (kind==NameKind.free)=true then do let a <-cellOf env name;pure (ForInStep.yield ((name,a)::r))else pure (ForInStep.yield r)):_->_->Sem (ForInStep (List (Str×Addr)))))=pure cl /\
   (∀p∈cl,p∈cs0\/env.cells.lookup p.1=some p.2)/\(∀p∈cs0,p∈cl)/\(∀y∈names,y.2=.free->∃c,(y.1,c)∈cl)
 |[],cs0,_=>⟨cs0,rfl,λp h=>.inl h,λp h=>h,λy h=>by cases h⟩
 |(n,k)::r,cs0,h=>by
  by_cases hk:k=.free
  ·subst hk
   obtain⟨c,hc⟩:=h (n,.free) (.head _) rfl
   obtain⟨cl,e,h1,h2,h3⟩:=Zdu r ((n,c)::cs0) λy hy=>h y (.tail _ hy)
   refine⟨cl,?_,λp hp=>?_,λp hp=>h2 p (.tail _ hp),λy hy hf=>?_⟩
   ·rw[List.forIn_cons]
    have e1:cellOf env n=pure c:=by unfold cellOf;rw[hc]
    simp only[beq_self_eq_true,if_true,e1,pure_bind]
    exact e
   ·rcases h1 p hp with q|q
    ·rcases Yl.mp q with q|q
     ·subst q;exact .inr hc
     ·exact .inl q
    ·exact .inr q
   ·rcases Yl.mp hy with q|q
    ·subst q;exact⟨c,h2 _ (.head _)⟩
    ·exact h3 y q hf
  ·obtain⟨cl,e,h1,h2,h3⟩:=Zdu r cs0 λy hy=>h y (.tail _ hy)
   refine⟨cl,?_,h1,h2,λy hy hf=>?_⟩
   ·rw[List.forIn_cons]
    have e1:(k==NameKind.free)=false:=by cases k<;>first|rfl|exact absurd rfl hk
    simp only[e1,Bool.false_eq_true,if_false,pure_bind]
    exact e
   ·rcases Yl.mp hy with q|q
    ·subst q;exact absurd hf hk
    ·exact h3 y q hf
theorem Zl5 {env:Env}{scope:Scope} (h:∀y∈scope.names,y.2=.free->∃c,env.cells.lookup y.1=some c) :
  ∃cl,closureFor scope env=pure cl/\(∀x c,cl.lookup x=some c->env.cells.lookup x=some c)/\(∀y∈scope.names,y.2=.free->∃c,cl.lookup y.1=some c/\env.cells.lookup y.1=some c):=by
 obtain⟨cl,e,h1,h2,h3⟩:=Zdu (env:=env) scope.names [] h
 have up:∀x c,cl.lookup x=some c->env.cells.lookup x=some c:=λx c q=>by
  rcases h1 _ (PySem.mem_of_lookup q)with z|z
  ·cases z
  ·exact z
 refine⟨cl,?_,up,λy hy hf=>?_⟩
 ·unfold closureFor
  simp only[bind_pure_comp]at e⊢
  rw[e]
  exact pure_bind _ _
 ·obtain⟨c,hc⟩:=h3 y hy hf
  cases q:cl.lookup y.1 with
  |none=>exact absurd (List.lookup_eq_none_iff.mp q _ hc) (by simp)
  |some c'=>exact⟨c',rfl,up _ _ q⟩
noncomputable def compOk (around scope:Scope):Bool :=
 scope.kind==.function&&around.kind==.function&&scope.names.all λy=>match y.2 with
  |.local=>scope.names.lookup y.1==some .local
  |.cell=>false
  |.free=>(scope.names.lookup y.1==some .free)&&(around.names.lookup y.1==some .cell||around.names.lookup y.1==some .free)
  |_=>true
theorem Zhb {a s:Scope} (h:compOk a s=true):s.kind=.function:=by
 simp only[compOk,Bool.and_eq_true,beq_iff_eq]at h;exact h.1.1
theorem ZjA {a s:Scope} (h:compOk a s=true) {y:Str×NameKind} (hy:y∈s.names):(match y.2 with
  |.local=>s.names.lookup y.1==some .local
  |.cell=>false
  |.free=>(s.names.lookup y.1==some .free)&&(a.names.lookup y.1==some .cell||a.names.lookup y.1==some .free)
  |_=>true)=true:=by
 simp only[compOk,Bool.and_eq_true]at h
 exact List.all_eq_true.mp h.2 y hy
theorem Zhc {a s:Scope} (h:compOk a s=true):∀y∈s.names,y.2≠.cell:=λy hy e=>by
 have q:=ZjA h hy
 rw[e]at q
 cases q
theorem Zhd {a s:Scope} (h:compOk a s=true):∀y∈s.names,y.2=.free->a.names.lookup y.1=some .cell\/a.names.lookup y.1=some .free:=λy hy e=>by
 have q:=ZjA h hy
 rw[e]at q
 simp only[Bool.and_eq_true,Bool.or_eq_true,beq_iff_eq]at q
 exact q.2
theorem Za6 {env:Env}:∀{names:List (Str×NameKind)}{x:Str}{k:NameKind},(names.map λ(n,k)=>if (k==NameKind.free&&env.scope.kind==.function&&env.kindOf n==some .cell)then (n,NameKind.cell)else (n,k)).lookup x=some k ->
  ∃k',names.lookup x=some k'/\(k=k'\/(k'=.free/\k=.cell))
 |[],_,_,h=>by simp at h
 |(n,k0)::r,x,k,h=>by
  by_cases hx:x=n
  ·subst hx
   refine⟨k0,by simp,?_⟩
   simp only[YF]at h
   split at h
   ·rename_i hc
    simp only[Bool.and_eq_true,beq_iff_eq]at hc
    simp only[List.lookup_cons_self,Option.some.injEq]at h
    exact .inr ⟨hc.1.1,h.symm⟩
   ·simp only[List.lookup_cons_self,Option.some.injEq]at h
    exact .inl h.symm
  ·have hb:(x==n)=false:=by simpa using hx
   simp only[YF]at h
   have e2:∀k1,((n,k1)::r).lookup x=r.lookup x:=λk1=>by simp[List.lookup_cons,hb]
   split at h<;>(simp only[List.lookup_cons,hb]at h;obtain⟨k',h1,h2⟩:=Za6 h;exact⟨k',by rw[e2];exact h1,h2⟩)
noncomputable def ZoY (X:Cx) (Nc:List Str) (scope:Scope) (cl:List (Str×Addr)) (C:Addr) (s2:Shared) (H2:Hp) (fp:List Addr):Cx where
 prog:=X.prog
 w:=X.w
 K:=X.K
 mg:=X.mg
 base:=X.base
 A:=X.A
 N:=Nc
 s₀:=s2
 H₀:=H2
 env:=compEnvC scope cl C X.env
 outer:=X.stack
 stack:=X.stack
 ex:=fp
 fn:=λ_=>false
 calm:=X.calm
 pn:=[]
 xe:=λ_ _=>False
noncomputable def iniC (js:List (Option Nat)) (σ:St):St:=js.map λj=>match j with
 |none=>none
 |some i=>(σ[i]?).join
noncomputable def takesC (N Nc:List Str) (scope:Scope):List (Option Nat)->Nat->Bool
 |[],i=>i==Nc.length
 |none::r,i=>takesC N Nc scope r (i+1)
 |some j::r,i=>(match Nc[i]?,N[j]? with
  |some x,some y=>x==y&&scope.names.lookup x==some .free
  |_,_=>false)&&takesC N Nc scope r (i+1)
theorem Zdv {N Nc:List Str}{scope:Scope}:∀{js:List (Option Nat)}{i:Nat},takesC N Nc scope js i=true->i+js.length=Nc.length
 |[],i,h=>by simpa[takesC]using h
 |none::r,i,h=>by
  have:=Zdv (js:=r) (i:=i+1) (by simpa[takesC]using h)
  simp only[Yq];omega
 |some j::r,i,h=>by
  simp only[takesC,Bool.and_eq_true]at h
  have:=Zdv (js:=r) (i:=i+1) h.2
  simp only[Yq];omega
theorem Zfg {N Nc:List Str}{scope:Scope}:∀{js:List (Option Nat)}{i k j:Nat},takesC N Nc scope js i=true->js[k]?=some (some j)->∃x,Nc[i+k]?=some x/\N[j]?=some x/\scope.names.lookup x=some .free
 |[],i,k,j,h,e=>by simp at e
 |none::r,i,0,j,h,e=>by simp at e
 |none::r,i,k+1,j,h,e=>by
  obtain⟨x,h1,h2,h3⟩:=Zfg (js:=r) (i:=i+1) (k:=k) (j:=j) (by simpa[takesC]using h) (by simpa using e)
  exact⟨x,by rw[<-h1];congr 1;omega,h2,h3⟩
 |some j0::r,i,0,j,h,e=>by
  simp only[takesC,Bool.and_eq_true]at h
  simp only[List.getElem?_cons_zero,Option.some.injEq]at e
  subst e
  cases e1:Nc[i]? with
  |none=>rw[e1]at h;simp at h
  |some x =>
   cases e2:N[j0]? with
   |none=>rw[e1,e2]at h;simp at h
   |some y =>
    rw[e1,e2]at h
    simp only[Bool.and_eq_true,beq_iff_eq]at h
    exact⟨x,by simpa using e1,by rw[h.1.1],h.1.2⟩
 |some j0::r,i,k+1,j,h,e=>by
  simp only[takesC,Bool.and_eq_true]at h
  obtain⟨x,h1,h2,h3⟩:=Zfg (js:=r) (i:=i+1) (k:=k) (j:=j) h.2 (by simpa using e)
  exact⟨x,by rw[<-h1];congr 1;omega,h2,h3⟩
section
variable {X:Cx}
theorem lookup_mem {names:List (Str×NameKind)}{x:Str}{k:NameKind} (h:names.lookup x=some k):(x,k)∈names:=PySem.mem_of_lookup h
theorem Zee {prog:Program}{w:World}{A:Around}{R:Result->Shared->Prop}{s:Shared}{elt target iter:Expr}{ifs:List Expr}{scope:Scope}{pos:Pos}{it acc:Value}{env:Env} (I:Nat->Shared->Prop)
  (turn:∀n s,I n s->wpAny (model prog w) A (pyNext it) (λr s₁=>match r with
   |none=>R (.ok .next) s₁
   |some v=>wpAny (model prog w) A (letOwnedTupleGo target it v) (λ_ s₁=>wpAny (model prog w) A (assign target env v) (λ_ s₂ =>
     wpAny (model prog w) A (forIn ifs true λc r=>if r=true then do let ok <-isTrue c env (eval c env);pure (ForInStep.yield ok)else pure (ForInStep.yield r)) (λok s₃ =>
      if ok=true then wpAny (model prog w) A (eval elt env) (λx s₄ =>
       wpAny (model prog w) A (call (.builtin "list.append") [acc,x]) (λ_ s₅=>∃m,m<n/\I m s₅) (λ_ _=>False) s₄) (λ_ _=>False) s₃
      else ∃m,m<n/\I m s₃) (λ_ _=>False) s₂) (λ_ _=>False) s₁) (λ_ _=>False) s₁) (λ_ _=>False) s)
  (n:Nat) (h:I n s) :
  codeAny (model prog w) A (.compLoop (.ListComp elt [⟨target,iter,ifs,0⟩] scope pos) 0 it acc env) R s:=by
 refine codeAny_loop rfl I (λn s hI=>?_) n h
 show wpAny _ A ((compTurn (.ListComp elt [⟨target,iter,ifs,0⟩] scope pos) 0 it acc env).onRaise (λx=>do noteFrame x env;theTreesLotGoes x)) _ _ s
 refine wpAny_noted ?_
 rw[compTurn_list]
 refine Ya (wpAny_standAt (Ya (YB (turn n s hI) (λr s₁ h₁=>?_) λ_ _ h'=>h'.elim)))
 cases r with
 |none=>exact Ye h₁
 |some v =>
  refine Ya (YB h₁ (λ_ s₁' h₁=>?_) λ_ _ h'=>h'.elim)
  refine Ya (YB h₁ (λ_ s₂ h₂=>Ya (YB h₂ (λok s₃ h₃=>?_) λ_ _ h'=>h'.elim)) λ_ _ h'=>h'.elim)
  cases ok with
  |false=>exact Ye ⟨rfl,h₃⟩
  |true =>
   exact Ya (Ya (YB h₃ (λx s₄ h₄=>Ya (YB h₄ (λ_ s₅ h₅=>Ye (Ye ⟨rfl,h₅⟩)) λ_ _ h'=>h'.elim)) λ_ _ h'=>h'.elim))
noncomputable def Znh (X:Cx) (ifs:List Expr) (t:TT):Prop :=
 ∀(pins:List (Addr×Obj)) (s:Shared) (σ:St) (H:Hp) (Q:Bool->Hp->Prop),Inv X pins σ H s->t σ H Q ->
  wpAny (model X.prog X.w) X.A (forIn ifs true λc r=>if r=true then do let ok <-isTrue c X.env (eval c X.env);pure (ForInStep.yield ok)else pure (ForInStep.yield r)) (TP X pins σ Q) X.xe s
noncomputable def tYes:TT:=λ_ H Q=>Q true H
theorem Za0:Znh X [] tYes:=λpins s σ H Q I h=>wpAny_tests_nil ⟨H,I,h⟩
theorem Zef {c:Expr}{t:TT} (h:PT X c t):Znh X [c] t:=λpins s σ H Q I hq=>wpAny_tests_one (h pins s σ H Q I hq)
noncomputable def ZcW (L:List Nat) (σ σ':St):Prop:=σ'.length=σ.length/\∀k,k∉L->σ'[k]?=σ[k]?
noncomputable def ZjB (g:TG) (L:List Nat):Prop:=∀v σ H (Q Q':St->Hp->Prop),(∀σ' H',ZcW L σ σ'->Q σ' H'->Q' σ' H')->g v σ H Q->g v σ H Q'
noncomputable def Zj5 (g:TGs) (L:List Nat):Prop:=∀v σ H (Q Q':St->Hp->Prop),(∀σ' H',ZcW L σ σ'->Q σ' H'->Q' σ' H')->g v σ H Q->g v σ H Q'
theorem ZcW.refl {L:List Nat}{σ:St}:ZcW L σ σ:=⟨rfl,λ_ _=>rfl⟩
theorem ZcW.trans {L L':List Nat}{a b c:St} (x:ZcW L a b) (y:ZcW L' b c):ZcW (L++L') a c :=
 ⟨y.1.trans x.1,λk hk=>(y.2 k λz=>hk (Yv _ z)).trans (x.2 k λz=>hk (YN _ z))⟩
theorem ZP {i:Nat}:ZjB (gName i) [i]:=λv σ H Q Q' hq h=>hq _ _ ⟨by simp,λk hk=>by
 rw[List.getElem?_set_ne]
 intro z;subst z;exact hk (by simp)⟩ h
theorem ZkX:Zj5 gNil []:=λv σ H Q Q' hq h=>⟨h.1,hq _ _ ZcW.refl h.2⟩
theorem Zfh {t:TG}{u:TGs}{L L':List Nat} (h1:ZjB t L) (h2:Zj5 u L'):Zj5 (gCons t u) (L++L'):=λv σ H Q Q' hq h=>by
 obtain⟨x,r,e,h⟩:=h
 exact⟨x,r,e,h1 _ _ _ _ _ (fun σ' H' k1 q=>h2 _ _ _ _ _ (fun σ2 H2 k2 q2=>hq _ _ (k1.trans k2) q2) q) h⟩
theorem ZkY {K:PySem.W.Frag}{n:Nat}{t:TGs}{L:List Nat} (h:Zj5 t L):ZjB (gTup K n t) L:=λv σ H Q Q' hq q=>by
 obtain⟨a,xs,e1,e2,e3,q⟩:=q
 exact⟨a,xs,e1,e2,e3,h _ _ _ _ _ hq q⟩
noncomputable def ZmM (wi:TI) (g:TG) (tt:TT) (te:TE) (js:List (Option Nat)):TE:=fun σ H Q=>wi σ H λJ H1=>∃W:Nat->Nat->List V->Hp->Prop,(∃m,W 0 m [] H1)/\∀i m acc H,W i m acc H ->
 (J.stop i H/\acc.length<=sizeLine/\∀p,H p=none->Q (.ref p) (upd H p (.lst acc))) \/
 (J.go i H/\acc.length<sizeLine/\∀x H',J.yld i H x H'->g x (iniC js σ) H' fun σ2 H2=>tt σ2 H2 λb H3=>if b=true then te σ2 H3 λv H4=>∃m',m'<m/\W (i+1) m' (acc++[v]) H4 else ∃m',m'<m/\W (i+1) m' acc H3)
theorem Zj6 {C:Addr}{h:Heap}:Heap.SameBut C h h:=by
 first|exact Heap.SameBut.refl|exact⟨rfl,λ_ _=>rfl⟩
end
end L2
namespace L2
open PySem PySem.Spec PyProof.Rows PySem.W PySem.Builtin.ObjectAttr PySem.Builtin.Getset_descriptor
noncomputable def ZkZ (x C:Addr) (h:Heap):Prop:=∃o,h.get? x=some o/\o.cls=.ref C
structure ExK (K:Frag) (C:Addr):Prop where
 dk:hasDictIn K C=true
 ga:findIn K (.ref C) "__getattribute__"=some (some (.builtin "BaseException.__getattribute__"))
 gt:findIn K (.ref C) "__getattr__"=some none
 cl:findIn K (.ref C) "__class__"=some (some (.builtin "object.__class__"))
 gg:specialIn K (.builtin "object.__class__") "__get__"=some (some (.builtin "getset_descriptor.__get__"))
 tk:takesIn K (.builtin "object.__class__")=some true
 mo:mroIn K C (.type "object")=some true
 mb:mroIn K C (.type "BaseException")=some true
section
variable {K:Frag}{x C:Addr}
theorem ZkZ.type {M:Model}{h:Heap} (I:ZkZ x C h):Looks M h (typeOf (.ref x)) (.ref C):=by
 obtain⟨o,e,c⟩:=I
 exact c▸(Looks.ld e).andThen .now
theorem ZoZ {M:Model}{h:Heap} (X:K.In h) (Z:ExK K C):Looks M h (find (.ref x) (.ref C) "__class__") (.bind (.builtin "getset_descriptor.__get__") (.builtin "object.__class__")):=by
 have L3:=looks_takesIn (M:=M) X Z.tk
 exact(looks_findIn (M:=M) X Z.cl).andThen ((looks_specialIn X Z.gg).andThen
  ((show Looks M h (dataDescriptor? (some (.builtin "object.__class__")) (some (.builtin "getset_descriptor.__get__"))) (some (.builtin "getset_descriptor.__get__",.builtin "object.__class__"))from L3.andThen .now).andThen (Looks.tag .now)))
theorem Zrb {prog:Program}{w:World}{A:Around}{R:Result->Shared->Prop}{s:Shared}{tp:Value} (X:K.In s.heap) (I:ZkZ x C s.heap) (Z:ExK K C) (hR:R (.ok (.ret (.ref C))) s) :
  codeAny (model prog w) A (.call (.builtin "getset_descriptor.__get__") ⟨[.builtin "object.__class__",.ref x,tp],[]⟩) R s:=by
 obtain⟨hp,gn,dw,tk,os⟩:=s
 have L0:=I.type (M:=model prog w)
 have L1:=looks_mroIn (M:=model prog w) X Z.mo
 refine codeAny_call_builtin KF.slot_gs.plain KF.entry_gs (KF.slot_gs.check _ _ _ _ _ _ _ _ KF.type_class (KF.args_gs _ _ _) ?_)
 unfold Builtin.«getset_descriptor.__get__» descrGet;rw[dga_obj];refine Ya (Ye ?_)
 unfold descrGetter descrCheckInstance descrNameAndClass isInstance;simp only[KF.owner_class]
 repeat lk
 refine⟨Code.quiet_builtin _ (by decide +kernel),codeAny_builtin KF.entry_class ?_⟩;unfold Builtin.«object.__class__» shownTypeOf
 repeat lk
 exact hR
theorem Zni {prog:Program}{w:World}{A:Around}{E:Value->Shared->Prop}{s:Shared}{tk:Tok}{Q:Fin->Shared->Prop} (X:K.In s.heap) (I:ZkZ x C s.heap) (Z:ExK K C) (hQ:Q (.done (.ret (.ref C))) s) :
  wpAny (model prog w) A (Builtin.«object.__getattribute__» ⟨[.ref x,.str "__class__" tk],[]⟩) Q E s:=by
 obtain⟨hp,gn,dw,t,os⟩:=s
 have L0:=I.type (M:=model prog w)
 have L2:=ZoZ (M:=model prog w) (x:=x) X Z
 unfold Builtin.«object.__getattribute__»
 refine Ya (Ye (Ya (Ye (Ya (L0.at (Ya (L2.at ?_)))))))
 show wpAny _ _ (holding _ (call _ _) >>= ret) _ _ _
 exact Ya (wpAny_holding (wpAny_call (Zrb (s:=⟨hp,gn,dw,t,os⟩) X I Z (Ye hQ))))
theorem Znj {M:Model}{A:Around}{E:Value->Shared->Prop}{s:Shared}{nameV:Value}{Q:Unit->Shared->Prop} (X:K.In s.heap) (I:ZkZ x C s.heap) (Z:ExK K C) (hq:Q () s) :
  wpAny M A (checkBuiltinCall "BaseException.__getattribute__" ⟨[.ref x,nameV],[]⟩) Q E s:=by
 obtain⟨hp,gn,dw,t,os⟩:=s
 have hk:builtinKind "BaseException.__getattribute__"=some .slot:=by decide +kernel
 have hsplit:splitId "BaseException.__getattribute__"=some ("BaseException","__getattribute__"):=by decide +kernel
 have L0:=I.type (M:=M)
 have L1:=looks_mroIn (M:=M) X Z.mb
 have ha:=F.args_bexc_ga (.ref x) nameV
 simp only[checkBuiltinCall,hk,hsplit]
 refine Ya ?_
 unfold isInstance
 refine Ya (L0.at (L1.at ?_))
 repeat (first|assumption|wp_step)
theorem Znk {prog:Program}{w:World}{A:Around}{E:Value->Shared->Prop}{s:Shared}{Q:Option Value->Shared->Prop} (X:K.In s.heap) (I:ZkZ x C s.heap) (Z:ExK K C) (hQ:Q (some (.ref C)) {s with toks:=s.toks+1}) :
  wpAny (model prog w) A (getAttr? (.ref x) "__class__") Q E s:=by
 obtain⟨hp,gn,dw,tk,os⟩:=s
 have L0:=I.type (M:=model prog w)
 have L1:=looks_findIn (M:=model prog w) X Z.ga
 have L3:=looks_findIn (M:=model prog w) X Z.gt
 have hb:=(F.attrBase_ValueError.ga).bind (.ref x)
 unfold getAttr? getAttrBy? getAttrBy;refine Ya (wpAny_mkText (Ya (wpAny_attempt (wpAny_holding (Ya (L0.at (Ya (L1.at ?_))))))))
 show wpAny _ _ (getAttrByItsOwn _ _ _ _ _ _) _ _ _
 unfold getAttrByItsOwn hookBefore
 refine Ya (L3.at ?_)
 refine Ya (wpAny_attempt (wpAny_holding ?_))
 unfold callGetattribute
 show wpAny _ _ (boundAndCalled _ _ _) _ _ _
 unfold boundAndCalled
 rw[hb]
 refine Ya (Ye ?_)
 refine wpAny_call ?_
 refine codeAny_call_builtin F.attrBase_ValueError.ga.plain F.entry_bexc_ga (Znj (s:=⟨hp,gn,dw,tk+1,os⟩) X I Z (Zni (s:=⟨hp,gn,dw,tk+1,os⟩) X I Z ?_))
 exact handed_on rfl (Ye hQ)
theorem Zrc (Z:ExK K C):KitX K (.ref x) (.ref C) (ZkZ x C) where
 ty:=λ_ _ _ I=>I.type
 it:=λ_ _ X _=>by
  obtain⟨cdD,hcD,_⟩:=any_some Z.dk
  unfold clsIn at hcD
  split at hcD
  ·rename_i c' d' cd' sl' ho
   intro A' Q' E' s' k q
   unfold isType loadHead;exact Ya (wpAny_loadPart (k _ _ (X _ _ ho)) (Ye q))
  ·cases hcD
 ne:=λh tp dd its n sl X htp=>by
  obtain⟨cdD,hcD,_⟩:=any_some Z.dk
  refine Bool.eq_false_iff.mpr λq=>?_
  have e:C=tp:=Value.ref.inj (beq_iff_eq.mp q);subst e
  unfold clsIn at hcD
  split at hcD
  ·rename_i c' d' cd' sl' ho
   have z:=(X _ _ ho).symm.trans htp;cases z
  ·cases hcD
 ca:=λX I k=>Znk X I Z k
end
noncomputable def Zjb (e C:Addr):HO:=.ext (ZkZ e C)
noncomputable def tyIs (K:Frag) (H:Hp) (x:V) (c:Value) (b:Bool):Prop :=
 (∃t,TyOf K H x t/\kitOne K t c=some b)\/∃e C,x=.ref e/\H e=some (Zjb e C)/\ExK K C/\kitOne K (.ref C) c=some b
noncomputable def cOf:V->Option Value
 |.ref a=>some (.ref a)
 |.ty n=>some (.type n)
 |_=>none
section
variable {X:Cx}
noncomputable def rIsi (K:Frag):List V->Hp->VK->Prop:=λxs H Q=>∃x v c b,xs=[x,v]/\cOf v=some c/\tyIs K H x c b/\Q (.bl b) H
theorem Zo0:ZbL X (.builtin "isinstance") (rIsi X.K):=by
 intro pins s σ H xs us Q I r h
 obtain⟨x,v,c,b,rfl,hc,ht,q⟩:=h
 obtain⟨u,u2,rfl,ru,ru2⟩:=r.two
 have e2:u2=c:=by
  cases v with
  |ref a=>have:=(show u2=Value.ref a from ru2);cases hc;exact this
  |ty n=>have:=(show u2=Value.type n from ru2);cases hc;exact this
  |_=>cases hc
 subst e2
 have fin:∀tk,EP X pins σ Q (.bool b) {s with toks:=tk}:=λtk=>⟨.bl b,H,I.tok tk,rfl,q⟩
 rcases ht with⟨t,ty,e⟩|⟨e,C,rfl,hH,Z,e1⟩
 ·exact Znc I ru ty e fin
 ·cases(show u=Value.ref e from ru)
  obtain⟨p,_,_⟩:=(show ZS X.prog X.w H s.heap e (Zjb e C)from I.hok e _ hH)
  exact kia_one (Zrc Z) I.kIn p e1 (λz=>nomatch z) fin
end
end L2
namespace L2
open PySem PySem.Spec PyProof.Rows
theorem ZS.has {P:Program}{w:World}{H:Hp}{h:Heap}{a:Addr}{o:HO} (x:ZS P w H h a o):∃u,h.get? a=some u:=by
 induction o with
 |lst xs=>obtain⟨_,_,_,_,e⟩:=x;exact⟨_,e⟩
 |tup xs=>obtain⟨_,_,_,o,e,_⟩:=x;exact⟨_,e⟩
 |dK kvs=>obtain⟨_,_,_,_,o,_,_,e,_⟩:=x;exact⟨_,e⟩
 |dT kvs=>obtain⟨_,_,_,_,o,_,_,e,_⟩:=x;exact⟨_,e⟩
 |set S n=>obtain⟨o,_,_,_,e,_⟩:=x;exact⟨_,e⟩
 |ins C dx fs=>obtain⟨_,_,_,e,_⟩:=x;exact⟨_,e⟩
 |own y=>exact x
 |xd fs=>obtain⟨_,⟨_,_,_,e,_⟩,_⟩:=x;exact⟨_,e⟩
 |rng lo hi=>obtain⟨_,_,_,e⟩:=x;exact⟨_,e⟩
 |frz ob u _=>obtain⟨e,_⟩:=x;exact⟨_,e⟩
 |tbl ps=>obtain⟨_,e,_⟩:=x;exact⟨_,e⟩
 |met f y=>exact⟨_,x⟩
 |ext φ=>obtain⟨_,e,_⟩:=x;exact e
structure Fly (P:Program) (w:World) (outer:List Env) (H:Hp) (s:Shared) (H':Hp) (B:Heap) (e:Addr) (C a0:Value) (s':Shared):Prop where
 os:s'.os=s.os
 bare:AllBare s'.gens
 fly:Heap.FlyingW B outer e C a0 s'.heap
 hok:HOk P w H' B
 keep:∀b o,s.heap.get? b=some o->H b=none->b∉frs outer->B.get? b=some o
 slot:∀b o,s.heap.get? b=some o->b∈frs outer->(∀vs,o.data≠.fields vs)->∃sl,s'.heap.get? b=some {o with slots:=sl}
 free:∀b o,s.heap.get? b=some o->H b=none->H' b=none
 there:∀b o,s.heap.get? b=some o->b∉frs outer->∃o',B.get? b=some o'
 tups:∀b xs,H b=some (.tup xs)->H' b=some (.tup xs)
 frzs:∀b o u,H b=some (.frz o u)->H' b=some (.frz o u)
 tbls:∀b ps,H b=some (.tbl ps)->∃more,H' b=some (.tbl (ps++more))
noncomputable def CXE (P:Program) (w:World):CXT:=λouter H s E ev s'=>∃e C a0 H' B,ev=.ref e/\Fly P w outer H s H' B e C a0 s'/\E C none H'
theorem Zy {P:Program}{w:World}{X:Cx}:Passes (CXE P w) X E0:=λ_ _ _ _ _ _ _ ⟨_,_,_,_,_,_,_,z⟩=>z.elim
section
variable {P:Program}{w:World}{K:PySem.W.Frag}{mg:Str->Option Value}{base:Heap}{N:List Str}{qual:Str}{scope:Scope}{f:Addr}{cd:Value}{A:Around}{outer:List Env}{s:Shared}{H:Hp}{E:XK}
theorem Zj7 {pins:List (Addr×Obj)}{σ:St}{H1:Hp}{s1:Shared}{h':Heap}{e:Addr}{C:Value}{vs:List Value} (I:Inv (Zf5 (CXE P w) P w K mg base N qual scope f cd A outer s H E) pins σ H1 s1)
  (hx:Heap.MadeExcOf s1.heap h' e C vs) (hE:E C none H1):(Zf5 (CXE P w) P w K mg base N qual scope f cd A outer s H E).xe (.ref e) {s1 with heap:=h'}:=by
 let env:=envOfC qual scope s.heap.objs.size f cd
 let B:=PySem.W.hideAll s1.heap (frs (env::outer))
 have hin:∀en∈(env::outer),∀b,en.frame=some b->b∈frs (env::outer):=λen he b hb=>List.mem_filterMap.mpr ⟨en,he,hb⟩
 have st:s1.heap.FunFrames base (env::outer):=I.stack
 have loc:∀b,b∈frs (env::outer)->b=s.heap.objs.size\/b∈frs outer:=λb hb=>Yl.mp (I.ZgE b hb)
 have old:∀b o,s.heap.get? b=some o->b∉frs outer->b∉frs (env::outer):=λb o q nb hb=>by
  rcases loc b hb with z|z
  ·exact absurd (Yj q) (by rw[z];exact YA _)
  ·exact nb z
 have un:Un (frs outer) [] H H1 s.heap s1.heap:=I.base
 have hokB:HOk P w H1 B:=λa o q=>by
  have nf:∀b o,H1 b=some o->b∉frs (env::outer):=λb o z hb=>by
   have:=I.ZhR b hb
   rw[this]at z;cases z
  refine(I.hok a o q).ZgD (λb u hb z=>?_) (λ_ z=>z) (λ_ _ z=>z) λ_ _ _ z=>z
  rcases hb with hb|hb
  ·rw[hb]at z⊢;exact PySem.W.hideAll_get _ z (nf a o q)
  ·exact PySem.W.hideAll_get _ z (nf b _ hb)
 refine wpAny_leaves_madeW (base:=B) (h:=s1.heap) (env:=env) (outer:=outer) (L:=s.heap.objs.size) I.ok.frames rfl (λb o q=>PySem.W.of_hideAll _ q) (PySem.W.funFrames_hide st hin) hx λh2 t x1 x2 x3 x4=>?_
 refine⟨e,C,.ref t,H1,B,rfl,⟨I.os,I.bare,x1,hokB,λb o q n nb=>?_,λb o q hb hd=>?_,λb o q n=>un.free b o q n (by simp),λb o q nb=>?_,un.tups,un.frzs,un.tbls⟩,hE⟩
 ·exact PySem.W.hideAll_get _ (un.keep b o q n nb (by simp)) (old b o q nb)
 ·obtain⟨sl,z⟩:=un.slot b o q (I.ok.frf b hb) hb (by simp)
  obtain⟨sl2,z2⟩:=x4 b _ (hx.keeps _ _ z) hd
  exact⟨sl2,z2⟩
 ·obtain⟨o',z⟩:=un.there b o q (by simp)
  exact⟨o',PySem.W.hideAll_get _ z (old b o q nb)⟩
theorem Zdw:Passes (CXE P w) (Zf5 (CXE P w) P w K mg base N qual scope f cd A outer s H E) E:=by
 intro pins σ H1 s1 ev s2 I h
 obtain⟨e,C,a0,H',B,rfl,F,hE⟩:=h
 let env:=envOfC qual scope s.heap.objs.size f cd
 have un:Un (frs outer) [] H H1 s.heap s1.heap:=I.base
 have loc:∀b,b∈frs (env::outer)->b=s.heap.objs.size\/b∈frs outer:=λb hb=>Yl.mp (I.ZgE b hb)
 have old:∀b o,s.heap.get? b=some o->b∉frs outer->b∉frs (env::outer):=λb o q nb hb=>by
  rcases loc b hb with z|z
  ·exact absurd (Yj q) (by rw[z];exact YA _)
  ·exact nb z
 refine wpAny_leaves_onW (env:=env) (outer:=outer) (L:=s.heap.objs.size) I.ok.frames rfl F.fly λh2 x1 x2=>?_
 refine⟨e,C,a0,H',B,rfl,⟨F.os.trans I.os,F.bare,x1,F.hok,λb o q n nb=>F.keep b o (un.keep b o q n nb (by simp)) (un.free b o q n (by simp)) (old b o q nb),λb o q hb hd=>?_,λb o q n=>?_,λb o q nb=>?_,λb xs z=>F.tups b xs (un.tups b xs z),λb o u z=>F.frzs b o u (un.frzs b o u z),λb ps z=>?_⟩,hE⟩
 ·obtain⟨sl,z⟩:=un.slot b o q (I.ok.frf b hb) hb (by simp)
  obtain⟨en,he,hf⟩:=List.mem_filterMap.mp hb
  obtain⟨sl2,z2⟩:=F.slot b _ z (List.mem_filterMap.mpr ⟨en,.tail _ he,hf⟩) hd
  obtain⟨sl3,z3⟩:=x2 b _ z2 hd
  exact⟨sl3,z3⟩
 ·by_cases hb:b∈frs outer
  ·have h1:H1 b=none:=un.free b o q n (by simp)
   obtain⟨sl,z⟩:=un.slot b o q n hb (by simp)
   exact F.free b _ z h1
  ·exact F.free b o (un.keep b o q n hb (by simp)) (un.free b o q n (by simp))
 ·obtain⟨o',z⟩:=un.there b o q (by simp)
  exact F.there b o' z (old b o q nb)
 ·obtain⟨m1,z1⟩:=un.tbls b ps z
  obtain⟨m2,z2⟩:=F.tbls b _ z1
  exact⟨m1++m2,by rw[<-Array.append_assoc];exact z2⟩
end
abbrev bmV:List Value:=[.type "ValueError",.type "Exception",.type "BaseException",.type "object"]
abbrev newV:String:="ValueError.__new__"
theorem Zo1 {K:PySem.W.Frag}{h:Heap}{mg:Str->Option Value}{x:Str}{C:Addr} (X:K.In h) (hm:mg x=some (.ref C)) (q:PySem.W.excIn K C bmV newV=true):OwnCls x C bmV newV mg h:=by
 refine⟨hm,?_⟩
 unfold PySem.W.excIn at q;split at q
 ·rename_i dd cd sl ho
  split at q
  ·rename_i C' bm k0 k1 k2 k3 n k5 hmm hs
   simp only[Bool.and_eq_true,beq_iff_eq,Bool.not_eq_true']at q;obtain⟨⟨⟨⟨⟨rfl,rfl⟩,hdel⟩,ht⟩,hok⟩,hni⟩:=q
   obtain⟨nm,bs,mro,ns,qn,hd,sn,sub,ab,col,del⟩:=cd;dsimp only at hmm hdel hok hni;subst hmm hdel
   have hsl:sl=#[k0,k1,k2,k3,some (.builtin newV),k5]:=by obtain⟨l⟩:=sl;simp only at hs;rw[hs]
   subst hsl;exact⟨bm,ns,nm,qn,bs,hd,sn,sub,ab,col,dd,k0,k1,k2,k3,k5,_,X _ _ ho,.of_isNs (PySem.W.isNs_of_in X hok),PySem.W.nsMap_none_of_in X hok hni,PySem.W.tail_of_in X ht⟩
  ·cases q
 ·cases q
section
variable {X:Cx}
noncomputable def tRaise (C:Addr) (E:XK) (t:TA):TS:=λ_ σ H=>t σ H λvs H1=>vs.length<=sizeLine/\E (.ref C) none H1
theorem Zf7 {x:Str}{C:Addr}{np cpos pos:Pos}{e0:Expr}{es:List Expr}{t:TA}{E:XK} (hc:X.calm=true) (hg:Gl X x) (hm:X.mg x=some (.ref C)) (q:PySem.W.excIn X.K C bmV newV=true) (ha:PA X (e0::es) t)
  (hx:∀pins σ H s h' e vs,Inv X pins σ H s->Heap.MadeExcOf s.heap h' e (.ref C) vs->E (.ref C) none H->X.xe (.ref e) {s with heap:=h'})
  (he:starEach (e0::es) X.env=(false,eval e0 X.env)::starEach es X.env:=by rfl) (hpl:(backTo cpos (starEach es X.env)).any (·.1)=false:=by rfl) (hd:(x==("__debug__":Str))=false:=by decide) :
  PS X (.Raise (some (.Call (.Name x np) (e0::es) [] cpos)) none pos) (tRaise C E t):=by
 intro pins s σ H D I h
 obtain⟨tl,Nn,nm,qn,bs,hdct,sn,sub,ab,col,dd,k0,k1,k2,k3,k5,mN,hC,hN,hni,T⟩:=(Zo1 (x:=x) I.mod.kin hm q).obj
 refine wpAny_Raise_call_subT (C:=C) (nm:=nm) (q:=qn) (N:=Nn) (bs:=bs) (bm:=tl) (hdct:=hdct) (sn:=sn) (sub:=sub) (ab:=ab) (col:=col) (dd:=dd) (k0:=k0) (k1:=k1) (k2:=k2) (k3:=k3) (k5:=k5)
  PySem.F.excBase_ValueError (mN:=mN) (T.hasType PySem.F.excBase_ValueError.hasBase) (I.ok.hd hc) (by rw[he];show(false||(backTo cpos (starEach es X.env)).any (·.1))=false;rw[hpl];rfl) hni (Zff I hg hm ⟨rfl,?_⟩ hd)
 have h2:=ha cpos pins s σ H _ I h
 rw[he]at h2⊢
 exact Calls.evalArgs_plain (thn h2 λus s2 ⟨vs,H2,I2,r,z,q2⟩=>⟨rfl,by rw[<-r.length];exact z,I2.bk _ _ hC,hN.keeps I2.bk,T.keeps I2.bk,λh' e hm'=>hx pins σ H2 s2 h' e us I2 hm' q2⟩)
end
noncomputable def Cx.tries (X:Cx) (Ec:St->XK) (pl:List (Addr×Obj)):Cx:={X with pn:=X.pn++pl,xe:=λev s'=>∃σ H s,Inv X pl σ H s/\CXE X.prog X.w X.stack H s (Ec σ) ev s'}
noncomputable def Cx.Zfu (X:Cx) (A':Around):Cx:={X with A:=A',calm:=false,xe:=λ_ _=>False}
section
variable {X:Cx}
theorem Inv.tries {pins:List (Addr×Obj)}{σ:St}{H:Hp}{s:Shared} (I:Inv X pins σ H s) (Ec:St->XK):Inv (X.tries Ec pins) [] σ H s :=
 ⟨⟨I.ok.mod,I.ok.kind,I.ok.glob,I.ok.blt,I.ok.above,I.ok.inj,I.ok.has,I.ok.cab,I.ok.hd,I.ok.frames,I.ok.stk,I.ok.exf,I.ok.bs,I.ok.bsz,I.ok.noex,I.ok.exfs,I.ok.funs,I.ok.frf⟩,I.os,I.bare,I.base,I.loc,I.cell,I.free,I.freeC,
  λp hp=>I.pin p (by simpa[Cx.tries]using hp),I.hok,I.len⟩
theorem Inv.Zf8 {pins pl:List (Addr×Obj)}{σ:St}{H:Hp}{s:Shared}{Ec:St->XK} (I:Inv (X.tries Ec pl) pins σ H s):Inv X pl σ H s :=
 ⟨⟨I.ok.mod,I.ok.kind,I.ok.glob,I.ok.blt,I.ok.above,I.ok.inj,I.ok.has,I.ok.cab,I.ok.hd,I.ok.frames,I.ok.stk,I.ok.exf,I.ok.bs,I.ok.bsz,I.ok.noex,I.ok.exfs,I.ok.funs,I.ok.frf⟩,I.os,I.bare,I.base,I.loc,I.cell,I.free,I.freeC,
  λp hp=>I.pin p (YN _ (by simpa[Cx.tries]using hp)),I.hok,I.len⟩
theorem Inv.Zfu {pins:List (Addr×Obj)}{σ:St}{H:Hp}{s:Shared}{A':Around} (I:Inv X pins σ H s) (hA:A'.frames=X.A.frames):Inv (X.Zfu A') pins σ H s :=
 ⟨⟨I.ok.mod,I.ok.kind,I.ok.glob,I.ok.blt,I.ok.above,I.ok.inj,I.ok.has,I.ok.cab,(λz=>nomatch z),hA.trans I.ok.frames,I.ok.stk,I.ok.exf,I.ok.bs,I.ok.bsz,I.ok.noex,I.ok.exfs,I.ok.funs,I.ok.frf⟩,I.os,I.bare,I.base,I.loc,I.cell,I.free,I.freeC,I.pin,I.hok,I.len⟩
theorem Inv.Zrd {pins:List (Addr×Obj)}{σ:St}{H:Hp}{s:Shared}{A':Around} (ok:X.Ok) (I:Inv (X.Zfu A') pins σ H s):Inv X pins σ H s :=
 ⟨ok,I.os,I.bare,I.base,I.loc,I.cell,I.free,I.freeC,I.pin,I.hok,I.len⟩
noncomputable def tCallX (sp:Sp) (E:St->XK) (t:TA):TE:=fun σ H Q=>t σ H λvs H1=>sp vs H1 Q (E σ)
theorem Zo2 {f:Addr}{fd:FuncData}{ps:List Str}{sp:Sp}{k:Nat}{x:Str}{p pos:Pos}{e:Expr}{es:List Expr}{t:TA}{E:St->XK} (F:FnOk X.prog X.w X.K X.mg X.base (CXE X.prog X.w) k f fd ps sp) (hr:Room k X.A) (hg:Gl X x) (hm:X.mg x=some (.ref f)) (hk:PySem.W.keepIn X.K (.ref f)=true) (hb:Binds X.K fd ps [])
  (hx:∀pins σ H s ev s',Inv X pins σ H s->CXE X.prog X.w X.stack H s (E σ) ev s'->X.xe ev s') (ha:PA X (e::es) t)
  (hdb:(x==("__debug__":Str))=false:=by decide) (he:starEach (e::es) X.env=(false,eval e X.env)::starEach es X.env:=by rfl) (hpl:(backTo pos (starEach es X.env)).any (·.1)=false:=by rfl) :
  PE X (.Call (.Name x p) (e::es) [] pos) (tCallX sp E t):=by
 intro pins s σ H Q I h
 refine wpAny_Call_Name_kw (Zff I hg hm ?_ hdb)
 refine PySem.W.callWith_K (h₀:=X.base) I.ok.mod.kin hk (thn (ha pos pins s σ H _ I h) λus s1 ⟨vs,H1,I1,r,q⟩=>⟨I1.kIn,?_⟩) he hpl
 have hl:us.length=ps.length:=by rw[<-r.length];exact F.len _ _ _ _ q
 have hbb:=hb s1 us I1.kIn (by simpa using hl)
 rw[List.append_nil]at hbb
 refine wpAny_call (codeAny_mono (F.run X.A X.stack s1 H1 ⟨us,[]⟩ us vs Q (E σ) hr I1.env0 hbb r q) λr s' hq=>?_)
 cases r with
 |error ev=>exact hx pins σ H1 s1 ev s' I1 hq
 |ok fl =>
  cases fl with
  |ret u=>exact I1.after hq
  |next=>exact False.elim hq
  |brk=>exact False.elim hq
  |cont=>exact False.elim hq
theorem ZmN {Ec:St->XK}{pl:List (Addr×Obj)}:∀pins σ H s ev s',Inv (X.tries Ec pl) pins σ H s->CXE X.prog X.w X.stack H s (Ec σ) ev s'->(X.tries Ec pl).xe ev s':=λpins σ H s ev s' I h=>⟨σ,H,s,I.Zf8,h⟩
theorem Zjc {M:Model}{A:Around}{E:Value->Shared->Prop}{C D:Addr}{nm' q':Str}{N':Addr}{bs' bm':List Value}{hdct':Bool}{sn':List Str}{sub':List Value}{ab':Bool}{col':Option Bool}{dd':Option Addr}{k0' k1' k2' k3' k5':Option Value}{newId':String}
  {h:Heap}{g:Array GenState}{d:Drawn}{t:Nat}{os:OsState}{e:Addr}{oe:Obj}{Q:Bool->Shared->Prop}
  (LC:PySem.W.Looks M h (isSubtype (.ref C) (.ref D)) true) (hD:h.get? D=some (excClassObj nm' q' D N' bs' bm' hdct' sn' sub' ab' col' dd' k0' k1' k2' k3' k5' newId'))
  (he:h.get? e=some oe) (hcls:oe.cls=.ref C) (hbase:bm'.contains (.type "BaseException")=true)
  (hq:Q true ⟨h,g,d,t,os⟩):wpAny M A (excMatches (.ref e) (.ref D)) Q E ⟨h,g,d,t,os⟩:=by
 have hcB:(Value.ref D::bm').contains (.type "BaseException")=true:=by rw[List.contains_cons,hbase,Bool.or_true]
 have f:=tc_notTuple
 unfold excMatches
 repeat (first|(with_reducible refine wpAny_loadPart_at he ?_;rw[hcls])|with_reducible refine wpAny_loadPart_at hD ?_|(with_reducible refine wpAny_isSubtype_exc hD ?_;rw[hcB])|(with_reducible refine LC.at ?_)|wp_step)
 exact hq
theorem Fly.land {pins:List (Addr×Obj)}{σ:St}{H1 H':Hp}{s1 s2:Shared}{B h5:Heap}{e C:Addr}{a0:Value} (I:Inv X pins σ H1 s1) (F:Fly X.prog X.w X.stack H1 s1 H' B e (.ref C) a0 s2)
  (fl:Heap.FlyingW B X.stack e (.ref C) a0 h5) (sm:s2.heap.UpToSlots h5):H' e=none/\Inv X pins σ (upd H' e (Zjb e C)) {s2 with heap:=h5}:=by
 obtain⟨oe,vs,hoe,hoc,hod,_⟩:=fl.first
 have nB:B.get? e=none:=fl.2.1
 have trk:∀b o,H' b=some o->b≠e:=λb o q z=>by
  obtain⟨u,hu⟩:=(F.hok b o q).has
  rw[z,nB]at hu;cases hu
 have hHe:H' e=none:=by
  cases q:H' e with
  |none=>rfl
  |some o=>exact absurd rfl (trk e o q)
 have nfr:e∉frs X.stack:=λhb=>by
  obtain⟨_,o,ho,hd⟩:=fl.2.2.1.mem hb
  rw[hoe]at ho;cases ho
  exact hd _ hod
 have frd:∀b o,s1.heap.get? b=some o->b∈frs X.stack->∀vs,o.data≠.fields vs:=λb o q hb=>by
  obtain⟨_,o',ho,hd⟩:=I.stack.mem hb
  rw[q]at ho;cases ho
  exact hd
 refine⟨hHe,I.ZoL (s':={s2 with heap:=h5}) (ch:=[]) F.os ⟨λb o q n nb _=>fl.1 b o (F.keep b o q n nb),λb o q n hb _=>?_,λb o q n _=>?_,λb o q _=>?_,λb xs q=>?_,λb o u q=>?_,λb ps q=>?_⟩ (λa o q=>?_) F.bare λb z=>absurd z (by simp)⟩
 ·obtain⟨sl,z⟩:=F.slot b o q hb (frd b o q hb)
  obtain⟨sl2,z2⟩:=sm b _ z (frd b o q hb)
  exact⟨sl2,z2⟩
 ·rw[Zh]
  ·exact F.free b o q n
  ·intro z
   by_cases hb:b∈frs X.stack
   ·exact nfr (z▸hb)
   ·have:=F.keep b o q n hb
    rw[z,nB]at this;cases this
 ·by_cases hb:b∈frs X.stack
  ·obtain⟨sl,z⟩:=F.slot b o q hb (frd b o q hb)
   obtain⟨sl2,z2⟩:=sm b _ z (frd b o q hb)
   exact⟨_,z2⟩
  ·obtain⟨o',z⟩:=F.there b o q hb
   exact⟨o',fl.1 b o' z⟩
 ·have z:=F.tups b xs q;rw[Zh (trk b _ z)];exact z
 ·have z:=F.frzs b o u q;rw[Zh (trk b _ z)];exact z
 ·obtain⟨m,z⟩:=F.tbls b ps q
  exact⟨m,by rw[Zh (trk b _ z)];exact z⟩
 ·by_cases ha:a=e
  ·subst ha
   rw[Zc]at q;cases q
   exact⟨⟨oe,hoe,hoc⟩,⟨oe,hoe⟩,λh1 h2 ⟨o,z1,z2⟩ k=>⟨o,k o z1,z2⟩⟩
  ·rw[Zh ha]at q
   exact(F.hok a o q).ZgD (λb u _ z=>fl.1 b u z) (λb z=>by rw[Zh (trk b _ z)];exact z) (λb xs z=>by rw[Zh (trk b _ z)];exact z) λb o u z=>by rw[Zh (trk b _ z)];exact z
theorem Inv.forget {pins:List (Addr×Obj)}{σ:St}{H:Hp}{s:Shared}{h':Heap}{j:Nat}{n:Str}{m:Str->Option Value}{u:Option Value} (I:Inv X pins σ H s) (hj:X.N[j]?=some n) (hN:X.N.Nodup)
  (hl:∀(i:Nat) (x:Str) (v:V),X.N[i]?=some x->σ[i]?=some (some v)->Vis X.env.scope x->∃u,RelV v u/\Look X.env s.heap m x u)
  (hn:h'.Ns X.env.locals (λx=>if x=n then u else m x)) (hs:Heap.SameBut X.env.locals s.heap h'):Inv X pins (σ.set j none) H {s with heap:=h'}:=by
 have same:∀b o,b≠X.env.locals->s.heap.get? b=some o->h'.get? b=some o:=λb o hb e=>hs.extBut b o hb e
 have old:∀b o,X.s₀.heap.get? b=some o->b≠X.env.locals:=λb o e=>Yk (Ys (Yj e) I.ok.above)
 have trk:∀b o,H b=some o->b≠X.env.locals:=λb o e z=>by rw[z,I.free]at e;cases e
 refine⟨I.ok,I.os,I.bare,⟨λb o e n hb hx=>same _ _ (old b o e) (I.base.keep b o e n hb hx),λb o e n hb hx=>?_,I.base.free,λb o e hx=>?_,I.base.tups,I.base.frzs,I.base.tbls⟩,⟨_,hn,λi x v e1 e2 e3=>?_⟩,λx c e=>?_,I.free,I.freeC,λp hp=>?_,λa o e=>?_,by rw[List.length_set];exact I.len⟩
 ·obtain⟨sl,z⟩:=I.base.slot b o e n hb hx
  exact⟨sl,same _ _ (old b o e) z⟩
 ·obtain⟨o',z⟩:=I.base.there b o e hx
  exact⟨o',same _ _ (old b o e) z⟩
 ·have hij:i≠j:=λz=>by
   subst z
   rw[List.getElem?_set]at e2
   split at e2
   ·split at e2<;>cases e2
   ·rename_i hh;exact hh rfl
  rw[List.getElem?_set_ne (Ne.symm hij)]at e2
  obtain⟨w,r,l⟩:=hl i x v e1 e2 e3
  refine⟨w,r,?_⟩
  have hxn:x≠n:=λz=>by subst z;exact hij (Zh2 hN e1 hj)
  rcases l with⟨l1,l2⟩|⟨l1,c,l2,l3⟩
  ·exact .inl ⟨l1,by show(if x=n then u else m x)=_;rw[Yb hxn];exact l2⟩
  ·obtain⟨oc,z1,z2⟩:=l3
   exact .inr ⟨l1,c,l2,oc,same _ _ (I.cne x c l2) z1,z2⟩
 ·obtain⟨v,oc,z1,z2⟩:=I.cell x c e
  exact⟨v,oc,same _ _ (I.cne x c e) z1,z2⟩
 ·obtain⟨z1,z2,z3,z4,z5⟩:=I.pin p hp
  exact⟨same _ _ z3 z1,z2,z3,z4,z5⟩
 ·refine(I.hok a o e).ZgD (λb u hb z=>same b u ?_ z) (λ_ z=>z) (λ_ _ z=>z) λ_ _ _ z=>z
  rcases hb with hb|hb
  ·rw[hb];exact trk a o e
  ·exact trk b _ hb
noncomputable def tTry (K:PySem.W.Frag) (D:Addr) (tb:(St->XK)->TS) (ts:TS) (j:Nat):TS:=λDe σ H=>∃Ec:St->XK,tb Ec De σ H/\∀σ1 C H1,Ec σ1 C none H1->∃C',C=.ref C'/\PySem.W.mroIn K C' (.ref D)=some true /\
 ∀e,H1 e=none->ts {nx:=fun σ2 H2=>De.nx (σ2.set j none) H2,rt:=λ_ _=>False} (σ1.set j (some (.ref e))) (upd H1 e (Zjb e C'))
theorem ps_try {body:List Stmt}{n x:Str}{np hpos pos:Pos}{b0:Stmt}{Zfu:List Stmt}{D:Addr}{tb:(St->XK)->TS}{ts:TS}{j:Nat}
  (hst:X.stack=X.env::X.outer/\X.env.frame=some X.env.locals) (hN:X.N.Nodup) (hj:X.N[j]?=some n) (hn:X.env.scope.names.lookup n=some .local)
  (hg:Gl X x) (hm:X.mg x=some (.ref D)) (qD:PySem.W.excIn X.K D bmV newV=true) (hb:∀Ec pl,PSs (X.tries Ec pl) body (tb Ec)) (hs:∀A',PSs (X.Zfu A') (b0::Zfu) ts)
  (hd:(x==("__debug__":Str))=false:=by decide) :
  PS X (.Try body [.ExceptHandler (some (.Name x np)) (some n) (b0::Zfu) hpos] [] [] pos) (tTry X.K D tb ts j):=by
 intro pins s σ H De I h
 obtain⟨Ec,hb1,hx⟩:=h
 refine wpAny_Try_except (YB (hb Ec pins [] s σ H De (I.tries Ec) hb1) (λfl s1 q=>?_) λev s1 q=>?_)
 ·cases fl with
  |next=>obtain⟨σ',H',I',q⟩:=q;exact wpAny_execs_nil ⟨σ',H',I'.Zf8,q⟩
  |brk=>obtain⟨σ',H',I',q⟩:=q;exact⟨σ',H',I'.Zf8,q⟩
  |cont=>obtain⟨σ',H',I',q⟩:=q;exact⟨σ',H',I'.Zf8,q⟩
  |ret u=>obtain⟨v,σ',H',I',r,q⟩:=q;exact⟨v,σ',H',I'.Zf8,r,q⟩
 ·obtain⟨σ1,H1,s0,I1,e,C,a0,H',B,rfl,F,hE⟩:=q
  obtain⟨C',rfl,hup,hx⟩:=hx σ1 C H' hE
  refine wpAny_looks_onW (by rw[I.ok.frames,hst.1]) hst.2 (hst.1▸F.fly) λh4 held sm4=>?_
  refine wpAny_landsW held λh5 fl5 sm5=>?_
  have fl5':Heap.FlyingW B X.stack e (.ref C') a0 h5:=by rw[hst.1];exact fl5
  obtain⟨hHe,I5⟩:=F.land I1 fl5' (sm4.trans sm5)
  refine wpAny_handleBy_cons (codeAny_handlers_test ?_) (by intro q;cases q)
  have I5s:=I5.Zfu (A':=X.A.mark (some (.ref e))) rfl
  refine Zff (X:=X.Zfu (X.A.mark (some (.ref e)))) I5s hg hm ?_ hd
  obtain⟨tl,Nn,nm,qn,bs,hdct,sn,sub,ab,col,dd,k0,k1,k2,k3,k5,mN,hC,_,_,T⟩:=(Zo1 (x:=x) I5.kIn hm qD).obj
  obtain⟨oe,hoe,hoc⟩:=fl5.there
  refine Zjc (PySem.W.looks_mroIn I5.kIn hup) hC hoe hoc (T.hasType PySem.F.excBase_ValueError.hasBase) ?_
  refine codeAny_handlers_suite_as ?_
  refine lands_againW fl5 λh6 fl6 sm6=>?_
  obtain⟨_,I6⟩:=F.land I1 (h5:=h6) (by rw[hst.1];exact fl6) ((sm4.trans sm5).trans sm6)
  refine Zd7 I6 hN hj (Or.inl hn) (v:=.ref e) rfl (λs7 I7=>?_) (.inr hn)
  refine YB (hs _ pins s7 _ _ _ (I7.Zfu rfl) (hx e hHe)) (λfl s8 q=>?_) λ_ _ z=>z.elim
  cases fl with
  |brk=>obtain⟨_,_,_,q⟩:=q;exact q.elim
  |cont=>obtain⟨_,_,_,q⟩:=q;exact q.elim
  |ret u=>obtain⟨_,_,_,_,_,q⟩:=q;exact q.elim
  |next =>
   obtain⟨σ8,H8,I8,q8⟩:=q
   have I8':=I8.Zrd I.ok
   refine Ya (wpAny_bindName (Zd7 I8' hN hj (Or.inl hn) (v:=.non) (u:=.none) rfl (λs9 I9=>?_) (.inr hn)))
   unfold unbindBehindTheSuite
   refine wpAny_onRaise ?_
   obtain⟨m9,hn9,hl9⟩:=I9.loc
   have hlen:j < σ8.length:=by
    have e1:=I8'.len
    have e2:=(Yp.mp hj).1
    omega
   obtain⟨u9,r9,l9⟩:=hl9 j n .non hj (by rw[List.getElem?_set_self hlen]) (Or.inl hn)
   have hm9:m9 n=some u9:=by
    rcases l9 with⟨_,z⟩|⟨z,_⟩
    ·exact z
    ·rcases z with z|z
     ·rw[show X.env.kindOf n=some .local from hn]at z;cases z
     ·rw[show X.env.kindOf n=some .local from hn]at z;cases z
   refine wpAny_unbindName_local hn hn9 hm9 (by rw[I.ok.kind];rfl) λh' u hns hsb=>?_
   have J:=I9.forget hj hN hl9 hns hsb
   rw[List.set_set]at J
   exact⟨_,_,J,q8⟩
end
section
variable {P:Program}{w:World}{K:PySem.W.Frag}{mg:Str->Option Value}{base:Heap}
theorem Fun.okX {x qual:Str}{st:Stmt}{f:Addr}{fd:FuncData}{N ps:List Str}{k:Nat}{sp:Sp} (F:Fun K x qual st f fd) (S:FnScope N ps (defScope st)) (len:∀vs H Q E,sp vs H Q E->vs.length=ps.length)
  (hbody:∀(cdv:Value) (A:Around) (outer:List Env) (s:Shared) (H:Hp) (vs:List V) (Q:VK) (E:XK),Room k (A.deeper (envOfC qual (defScope st) s.heap.objs.size f cdv))->sp vs H Q E ->
   ∃t,PSs (Zf5 (CXE P w) P w K mg base N qual (defScope st) f cdv A outer s H E) (defBody st) t/\t {nx:=λ_ H'=>Q .non H',rt:=Q} (start N vs) H):FnOk P w K mg base (CXE P w) (k+1) f fd ps sp:=by
 obtain⟨oc,od,kV,doc,pm,an,cdv,ct,osl,rfl,lk,hcd⟩:=F.ex
 exact fn_of lk hcd S len λA outer s H vs Q E hr hsp=>hbody cdv A outer s H vs Q E hr hsp
end
end L2
namespace L2
open PySem PySem.Spec PyProof.Rows PySem.W
theorem ZhW:∀{ns:List Int}{us:List Value},Vals (ns.map V.int) us->∃xs:Array (Int×Tok),us.toArray=intItems xs/\xs.toList.map (·.1)=ns
 |[],_,.nil=>⟨#[],by simp[intItems],rfl⟩
 |n::ns,_,.cons (b:=u) r t=>by
  obtain⟨tk,rfl⟩:=(show ∃t,u=Value.int n t from r)
  obtain⟨xs,e1,e2⟩:=ZhW t
  refine⟨#[(n,tk)]++xs,?_,by simp[e2]⟩
  have:∀(l:List Value),(Value.int n tk::l).toArray=#[Value.int n tk]++l.toArray:=λl=>by simp
  rw[this,e1]
  simp[intItems]
section
variable {X:Cx}
theorem ZaM:OpR X (binaryOp .Mult) (rI IntMulOk λi j=>.int (i*j)):=opI λ_ _ _ _ _ _ _ hc q=>mul_int q hc
noncomputable def rSum (K:Frag):List V->Hp->VK->Prop:=λxs H Q=>∃(p:Addr) (ns:List Int),xs=[.ref p]/\SqL K H p (ns.map V.int)/\Q (.int ns.sum) H
theorem Zo3 (hc:X.calm=true):ZbL X (.builtin "sum") (rSum X.K):=by
 intro pins s σ H xs us Q I r h
 obtain⟨p,ns,rfl,hp,q⟩:=h
 obtain⟨u,rfl,ru⟩:=r.one
 cases(show u=Value.ref p from ru)
 obtain⟨its,rv,pl,hz⟩:=I.list hp
 obtain⟨ys,e1,e2⟩:=ZhW rv
 refine sum_intListG (xs:=ys) (I.ok.hd hc) (e1▸pl.isList) λh' tk t' k=>⟨.int ns.sum,H,I.kept k,⟨t',?_⟩,q⟩
 congr 1
 rw[preSum_eq,<-e2,List.take_of_length_le (by simp)]
noncomputable def rCount:V->List V->Hp->VK->Prop:=λx vs H Q=>∃l xs y,x=.ref l/\vs=[y]/\H l=some (.lst xs)/\(∃b,y=.bl b)/\(∀z∈xs,∃b,z=.bl b)/\Q (.int (xs.countP λz=>decide (z=y))) H
theorem Zo4 (a b:Bool):PySem.MeetsSeq.EqGives (.bool a) (.bool b) (a==b):=λprog w A E s Q h=>SeqAt.EqAt.bool_bool a b prog w E Q h
theorem Zic:MtM X "list.count" rCount:=by
 intro pins s σ H x vs v us Q I rx rv h
 obtain⟨l,xs,y,rfl,rfl,hH,⟨b,rfl⟩,hall,q⟩:=h
 cases rx
 obtain⟨u,rfl,ru⟩:=rv.one
 cases(show u=Value.bool b from ru)
 obtain⟨z,its,n,r,hl,e⟩:=I.Zja hH
 have key:∀{xs:List V}{its:List Value},Vals xs its->(∀z∈xs,∃b,z=.bl b)->(∀y∈its,∃c,y=Value.bool c)/\its.countP (λy=>y==Value.bool b)=xs.countP λz=>decide (z=.bl b):=by
  intro xs its r
  induction r with
  |nil=>intro _;exact⟨λy hy=>by simp at hy,rfl⟩
  |@cons a u l1 l2 ra rt ih =>
   intro hb
   obtain⟨c,rfl⟩:=hb a (.head _)
   obtain rfl:u=Value.bool c:=ra
   obtain⟨i1,i2⟩:=ih λz hz=>hb z (.tail _ hz)
   refine⟨λy hy=>?_,?_⟩
   ·rcases Yl.mp hy with rfl|hy
    ·exact⟨c,rfl⟩
    ·exact i1 y hy
   ·rw[List.countP_cons,List.countP_cons,i2]
    congr 1
    cases c<;>cases b<;>simp
 obtain⟨k1,k2⟩:=key r hall
 refine call_meets F.slot_list_count ⟨_,e,rfl⟩ F.entry_list_count (F.args_list_count_2 _ _) (PySem.MeetsSeq.list_count l its.toArray n (.bool b) (λy=>y==Value.bool b) (λy hy=>?_)) ⟨e,?_⟩
 ·obtain⟨c,rfl⟩:=k1 y (by simpa using hy)
  have:=Zo4 c b
  have e2:(Value.bool c==Value.bool b)=(c==b):=by cases c<;>cases b<;>rfl
  rw[e2];exact this
 ·refine⟨.int _,H,I.tok _,⟨_,rfl⟩,?_⟩
  simp only[List.countP_toArray,k2]
  exact q
noncomputable def PJ (X:Cx) (es:List (Sem Value)) (t:St->Hp->(Hp->Prop)->Prop):Prop :=
 ∀(out:Str) (pins:List (Addr×Obj)) (s:Shared) (σ:St) (H:Hp) (Q:Hp->Prop),out.length+2000*es.length<=100000->Inv X pins σ H s->t σ H Q ->
  wpAny (model X.prog X.w) X.A (joinParts out es) (λu s'=>∃y tk H',u=.str y tk/\Inv X pins σ H' s'/\Q H') X.xe s
theorem Zj8:PJ X [] (λ_ H Q=>Q H):=λout pins s σ H Q hl I h =>
 joinParts_nil ⟨out,_,H,rfl,I.tok _,h⟩ (by simp at hl;exact Yf hl (by decide))
theorem Zb4 {x:Str}{j:Nat}{pos:Pos}{es:List (Sem Value)}{t:St->Hp->(Hp->Prop)->Prop} (hx:x.length<=2000) (h:PJ X es t):PJ X (eval (.Constant (.str x) j pos) X.env::es) t:=by
 intro out pins s σ H Q hl I hq
 have hl':(out++x).length+2000*es.length<=100000:=by rw[PySem.strLen_append];simp at hl;omega
 refine joinParts_cons (Calls.Constant_str ⟨Yf (Yf (Nat.le_add_right _ _) hl') (by decide),?_⟩)
 exact h _ pins _ σ H Q hl' (I.tok _) hq
theorem Znl {i:Int} (h0:0<=i) (h1:i<10 ^ 18):i.natAbs.log2<1920:=by
 by_cases hz:i.natAbs=0
 ·rw[hz];decide
 ·have h3:i.natAbs<2 ^ 60:=by
   have:(2:Nat) ^ 60=1152921504606846976:=by decide
   have h2:(10:Int) ^ 18=1000000000000000000:=by decide
   omega
  exact Ys ((Nat.log2_lt hz).mpr h3) (by decide)
theorem ZgK {e:Expr}{pos:Pos}{es:List (Sem Value)}{te:TE}{t:St->Hp->(Hp->Prop)->Prop} (he:PE X e te) (h:PJ X es t):PJ X (eval (.FormattedValue e (-1) none pos) X.env::es) (fun σ H Q=>te σ H λx H1=>∃i:Int,x=.int i/\(0<=i/\i<10 ^ 18)/\t σ H1 Q):=by
 intro out pins s σ H Q hl I hq
 refine joinParts_cons (FormattedValue_plain (thn (he pins s σ H _ I hq) λu s1 ⟨x,H1,I1,r1,i,ex,⟨h0,h1⟩,q⟩=>?_))
 subst ex
 obtain⟨tk,rfl⟩:=(show ∃t,u=Value.int i t from r1)
 refine wpAny_formatField_int (Znl h0 h1) ?_
 have hx:(Str.ofString (toString i)).length<=18:=toString_length_le h0 (by decide) h1
 have hl':(out++Str.ofString (toString i)).length+2000*es.length<=100000:=by rw[PySem.strLen_append];simp at hl;omega
 refine⟨Yf (Yf (Nat.le_add_right _ _) hl') (by decide),?_⟩
 exact h _ pins _ σ H1 Q hl' (I1.tok _) q
theorem Zk0 (env:Env):∀l:List Expr,(evalEach l env).length=l.length
 |[]=>rfl
 |e::r=>by
  have:evalEach (e::r) env=eval e env::evalEach r env:=rfl
  rw[this,Yq,Yq,Zk0 env r]
theorem Zfi {e1 e2:Expr}{rest:List Expr}{pos:Pos}{t:St->Hp->(Hp->Prop)->Prop} (h:PJ X (eval e1 X.env::eval e2 X.env::evalEach rest X.env) t) (hn:rest.length<=20:=by decide) :
  PE X (.JoinedStr (e1::e2::rest) pos) (fun σ H Q=>t σ H λH1=>∀y,Q (.str y) H1):=by
 intro pins s σ H Q I hq
 have hle:=Zk0 X.env rest
 refine JoinedStr_many (thn (h Str.empty pins s σ H _ (by simp only[Yq,hle];show 0+_<=_;omega) I hq) λu s' ⟨y,tk,H',e,I',q⟩=>?_)
 subst e
 exact⟨.str y,H',I',⟨tk,rfl⟩,q y⟩
end
noncomputable def clsAt (mg:Str->Option Value) (x:Str):Addr:=match mg x with
 |some (.ref C)=>C
 |_=>0
noncomputable def tokAt (mg:Str->Option Value) (x:Str):Tok:=match mg x with
 |some (.int _ t)=>t
 |_=>default
noncomputable def Callee (P:Program) (w:World) (K:Frag) (mg:Str->Option Value) (base:Heap) (x:Str) (k:Nat) (ps:List Str) (sp:Sp):Prop :=
 ∃f fd,mg x=some (.ref f)/\keepIn K (.ref f)=true/\Binds K fd ps []/\FnOk P w K mg base (CXE P w) k f fd ps sp
section
variable {X:Cx}
theorem Zag {st:Stmt}{t:TS} (h:PS X.nox st t):PS X st t:=λpins s σ H D I hw =>
 YB (h pins s σ H D (I.Zi7 _) hw) (λ_ _ q=>q.Zd9) λ_ _ z=>False.elim z
theorem Zk {x:Str}{k:Nat}{ps:List Str}{sp:Sp}{E:XK}{e:Expr}{es:List Expr}{t:TA}{p pos:Pos} (C:Callee X.prog X.w X.K X.mg X.base x k ps sp) (hr:Room k X.A) (hg:Gl X x) (hx:Passes (CXE X.prog X.w) X E)
  (ha:PA X (e::es) t) (hdb:(x==("__debug__":Str))=false:=by decide) (he:starEach (e::es) X.env=(false,eval e X.env)::starEach es X.env:=by rfl) (hpl:(backTo pos (starEach es X.env)).any (·.1)=false:=by rfl) :
  PE X (.Call (.Name x p) (e::es) [] pos) (tCall sp [] E t):=by
 obtain⟨f,fd,hm,hk,hb,F⟩:=C
 exact Zq7 F hr hg hm hk hb .nil hx ha hdb he hpl
theorem Zfj {x:Str}{k:Nat}{ps:List Str}{sp:Sp}{E:St->XK}{e:Expr}{es:List Expr}{t:TA}{p pos:Pos} (C:Callee X.prog X.w X.K X.mg X.base x k ps sp) (hr:Room k X.A) (hg:Gl X x)
  (hx:∀pins σ H s ev s',Inv X pins σ H s->CXE X.prog X.w X.stack H s (E σ) ev s'->X.xe ev s')
  (ha:PA X (e::es) t) (hdb:(x==("__debug__":Str))=false:=by decide) (he:starEach (e::es) X.env=(false,eval e X.env)::starEach es X.env:=by rfl) (hpl:(backTo pos (starEach es X.env)).any (·.1)=false:=by rfl) :
  PE X (.Call (.Name x p) (e::es) [] pos) (tCallX sp E t):=by
 obtain⟨f,fd,hm,hk,hb,F⟩:=C
 exact Zo2 F hr hg hm hk hb hx ha hdb he hpl
theorem ZhX {P:Program}{w:World}{K:Frag}{mg:Str->Option Value}{base:Heap}{N:List Str}{qual:Str}{scope:Scope}{f:Addr}{cd:Value}{A:Around}{outer:List Env}{s0:Shared}{H0:Hp}{E:XK}{C:Addr} :
  ∀pins σ H s h' e vs,Inv (Zf5 (CXE P w) P w K mg base N qual scope f cd A outer s0 H0 E) pins σ H s->Heap.MadeExcOf s.heap h' e (.ref C) vs->E (.ref C) none H->(Zf5 (CXE P w) P w K mg base N qual scope f cd A outer s0 H0 E).xe (.ref e) {s with heap:=h'} :=
 λ_ _ _ _ _ _ _ I hx hE=>Zj7 I hx hE
end
theorem bt_max:bootBuiltins "max"=some (.builtin "max"):=by decide +kernel
theorem bt_min:bootBuiltins "min"=some (.builtin "min"):=by decide +kernel
theorem bt_sum:bootBuiltins "sum"=some (.builtin "sum"):=by decide +kernel
theorem Zj:bootBuiltins "isinstance"=some (.builtin "isinstance"):=by decide +kernel
theorem Zre:bootBuiltins "list"=some (.type "list"):=by decide +kernel
theorem ZbN:bootBuiltins "tuple"=some (.type "tuple"):=by decide +kernel
theorem Zl6:bootBuiltins "int"=some (.type "int"):=by decide +kernel
theorem Zrf:bootBuiltins "bool"=some (.type "bool"):=by decide +kernel
theorem ZcX:bootBuiltins "ValueError"=some (.type "ValueError"):=by decide +kernel
section
variable {X:Cx}{pins:List (Addr×Obj)}{σ:St}{H:Hp}{s:Shared}{h':Heap}
theorem Inv.Zj9 {t':Nat}{fp:List Addr} (I:Inv X pins σ H s) (k:∀b o,b∉fp->s.heap.get? b=some o->h'.get? b=some o) (hf:∀b∈fp,FpOk X pins H b):Inv X pins σ H {s with heap:=h',toks:=t'}:=by
 have nit:∀b u,H b=some u->b∉fp:=λb u e z=>by rw[(hf b z).1]at e;cases e
 refine I.step (g':=s.gens) (d':=s.drawn) (ch:=fp) (λb hb=>?_) (λb o _ _ hc e _=>k b o hc e) (λb o _ _ hc e _=>⟨o.slots,k b o hc e⟩) (λ_ _ _ _ n=>n)
  (λb o hc e=>⟨o,k b o hc e⟩) (λ_ _ e=>e) (λ_ _ _ e=>e) (λb ps e=>⟨#[],by rw[e];simp⟩) (λm hm=>?_) (λb u e=>?_) I.bare
 ·obtain⟨_,f1,_,f3,f4,f5⟩:=hf b hb
  exact⟨f3,f1,f4,f5⟩
 ·obtain⟨o,es,ep,ho,r⟩:=hm
  exact⟨o,es,ep,k _ o (λz=>(hf _ z).2.1 rfl) ho,r⟩
 ·refine(I.hok b u e).ZgD (λc v hc q=>k c v ?_ q) (λ_ q=>q) (λ_ _ q=>q) λ_ _ _ q=>q
  rcases hc with z|z
  ·rw[z];exact nit b u e
  ·exact nit c _ z
end
theorem cxK {CX:CXT}{P:Program}{w:World}{K:Frag}{mg:Str->Option Value}{base:Heap}{N:List Str}{qual:Str}{scope:Scope}{f:Addr}{cd:Value}{A:Around}{outer:List Env}{s:Shared}{H:Hp}{E:XK} :
  (Zf5 CX P w K mg base N qual scope f cd A outer s H E).K=K:=rfl
theorem Zg.upd {H H1:Hp}{p:Addr}{o:HO} (h:H p=none) (e:Zg H H1):Zg H (upd H1 p o):=λb u z=>by
 rw[Zh (Zr z h)];exact e b u z
theorem Zg.ZX {H H1:Hp}{p:Addr}{o:HO} (e:Zg H H1) (h:H1 p=none):Zg H (L2.upd H1 p o):=e.upd (e.free h)
theorem ZmO {X:Cx}{K:Frag}{es:List Expr}{pos:Pos}{k:Nat}{t:TGs}{n:Nat} (hK:X.K=K) (hc:X.calm=true) (h:PGs X es t)
  (hn:(assignEach es X.env).length=n:=by rfl) (hst:(assignEach es X.env).findIdx? (·.1)=none:=by rfl):PG X (.Tuple es k pos) (gTup K n t):=hK▸ZfD hc h hn hst
noncomputable def Zf9 (J:It) (g:TG) (tb:TS) (D:Ends) (σ:St) (H1:Hp):Prop:=∃W:Nat->Nat->St->Hp->Prop,(∃m,W 0 m σ H1)/\∀i m σ H,W i m σ H ->
 (J.stop i H/\D.nx σ H)\/(J.go i H/\∃N:St->Hp->Prop,(∀σ' H',N σ' H'->∃m',m'<m/\W (i+1) m' σ' H')/\∀x H',J.yld i H x H'->g x σ H' fun σ2 H2=>tb {D with nx:=N,ct:=N,bk:=D.nx} σ2 H2)
theorem Zrg {wi:TI}{g:TG}{tb:TS}{D:Ends}{σ:St}{H:Hp}:tFor wi g tb D σ H=wi σ H λJ H1=>Zf9 J g tb D σ H1:=rfl
noncomputable def Zl7 (c:TT) (tb:TS) (D:Ends) (σ:St) (H:Hp):Prop:=ZlV c tb D σ H
theorem Znm {c:TT}{tb:TS}{D:Ends}{σ:St}{H:Hp}:ZlV c tb D σ H=Zl7 c tb D σ H:=rfl
noncomputable def Zga (J:It) (g:TG) (tt:TT) (te:TE) (σ0:St) (Q:VK) (H1:Hp):Prop:=∃W:Nat->Nat->List V->Hp->Prop,(∃m,W 0 m [] H1)/\∀i m acc H,W i m acc H ->
 (J.stop i H/\acc.length<=sizeLine/\∀p,H p=none->Q (.ref p) (upd H p (.lst acc))) \/
 (J.go i H/\acc.length<sizeLine/\∀x H',J.yld i H x H'->g x σ0 H' fun σ2 H2=>tt σ2 H2 λb H3=>if b=true then te σ2 H3 λv H4=>∃m',m'<m/\W (i+1) m' (acc++[v]) H4 else ∃m',m'<m/\W (i+1) m' acc H3)
theorem Zo5 {wi:TI}{g:TG}{tt:TT}{te:TE}{js:List (Option Nat)}{σ:St}{H:Hp}{Q:VK}:ZmM wi g tt te js σ H Q=wi σ H λJ H1=>Zga J g tt te (iniC js σ) Q H1:=rfl
noncomputable def CW (n:Nat) (vals:Nat->V) (H1:Hp) (i m:Nat) (acc:List V) (H:Hp):Prop:=m=n-i/\i<=n/\acc=(List.range i).map vals/\Zg H1 H
theorem CW.next {n:Nat}{vals:Nat->V}{H1 H:Hp}{i:Nat}{v:V} (hi:i<n) (hv:v=vals i) (s:Zg H1 H):∃m',m'<n-i/\CW n vals H1 (i+1) m' ((List.range i).map vals++[v]) H :=
 ⟨n-(i+1),by omega,rfl,hi,by rw[YQ,YV,hv];rfl,s⟩
theorem comp_map {J:It}{n:Nat}{H1:Hp}{g:TG}{tt:TT}{te:TE}{σ0:St}{Q:VK} (vals:Nat->V) (hn:n<sizeLine) (hgo:∀i H,Zg H1 H->i<n->J.go i H) (hstop:∀H,Zg H1 H->J.stop n H)
  (hb:∀i x H H',i<n->Zg H1 H->J.yld i H x H'->g x σ0 H' fun σ2 H2=>tt σ2 H2 λb H3=>if b=true then te σ2 H3 λv H4=>∃m',m'<n-i/\CW n vals H1 (i+1) m' ((List.range i).map vals++[v]) H4 else ∃m',m'<n-i/\CW n vals H1 (i+1) m' ((List.range i).map vals) H3)
  (hk:∀l H',Zg H1 H'->H' l=none->Q (.ref l) (upd H' l (.lst ((List.range n).map vals)))) :
  Zga J g tt te σ0 Q H1:=by
 refine⟨CW n vals H1,⟨n,rfl,Yn _,rfl,Zg.refl _⟩,?_⟩
 rintro i m acc H ⟨rfl,hi,rfl,s⟩
 by_cases h:i<n
 ·refine .inr ⟨hgo i H s h,by simpa using Nat.lt_trans h hn,λx H' y=>hb i x H H' h s y⟩
 ·have e:i=n:=by omega
  subst e
  exact .inl ⟨hstop H s,by simpa using YI hn,λp hp=>hk p H s hp⟩
theorem Zl8 {α:Type}{xs:List α}{i:Int}{j:Nat} (h:i=(j:Int)) (hj:j<xs.length):atI xs i=some xs[j]:=by
 subst h
 unfold atI ixN
 rw[Yc (by omega),Yc (by omega)]
 simp
theorem Zfk {α:Type}{xs:List α}{i:Int} (C:α->Prop) (h0:0<=i) (h1:i<xs.length) (h:∀x∈xs,C x):∃v,atI xs i=some v/\C v:=by
 obtain⟨j,rfl⟩:=YR h0
 have hj:j<xs.length:=by omega
 exact⟨xs[j],Zl8 rfl hj,h _ (YY hj)⟩
theorem mul_r {a b:Int} (h1:-(2 ^ 64)<b) (h2:b<2 ^ 64):IntMulOk a b:=IntMulOk.of_right (intBits_le_64 h1 h2)
theorem ZmP {a b:Int} (h1:-(2 ^ 64)<a) (h2:a<2 ^ 64):IntMulOk a b:=IntMulOk.of_left (intBits_le_64 h1 h2)
theorem ZhY {a b:Int} (ha:Builtin.Int.intBits a<=2 ^ 20) (hb:Builtin.Int.intBits b<=2 ^ 20):IntMulOk a b:=IntMulOk.of_bits ha hb
theorem cp64:Zh6 10 64:=by unfold Zh6;decide
theorem cp18:Zh6 10 18:=by unfold Zh6;decide
theorem cp9:Zh6 10 9:=by unfold Zh6;decide
theorem cp59:Zh6 10 59:=by unfold Zh6;decide
theorem pm1:IntMulOk (10 ^ Int.toNat 64) (10 ^ Int.toNat 64):=ZhY (by decide +kernel) (by decide +kernel)
theorem pm2:IntMulOk (10 ^ Int.toNat 64*10 ^ Int.toNat 64) (10 ^ Int.toNat 64):=ZhY (by decide +kernel) (by decide +kernel)
noncomputable def Exc (p:Addr) (H H':Hp):Prop:=∀b o,b≠p->H b=some o->H' b=some o
theorem Zg.exc {H H1 H2:Hp}{p:Addr} (s:Zg H H1) (h:H p=none) (e:Exc p H1 H2):Zg H H2:=λb o z=>e b o (Zr z h) (s b o z)
theorem Zg.Zfv {H H':Hp}{p:Addr} (s:Zg H H'):Exc p H H':=λb o _ z=>s b o z
theorem Exc.upd {H:Hp}{p:Addr}{o:HO}:Exc p H (L2.upd H p o):=λb u n z=>by rw[Zh n];exact z
theorem range_getD {α β:Type} (xs:List α) (d:α) (f:α->β) (n:Nat) (h:n=xs.length):(List.range n).map (λj=>f (xs.getD j d))=xs.map f:=by
 subst h
 refine List.ext_getElem (by simp) λj h1 h2=>?_
 have hj:j<xs.length:=by simpa using h1
 simp[Yr,hj]
theorem Z8 {K:Frag}{H:Hp}{p:Addr}{xs:List V} (h:H p=some (.lst xs)):tyV K "list" (.ref p) H:=.inl ⟨rfl,_,SqL.of h⟩
theorem Zrh {i j:Int}:ZkT (.int i) (.int j)=true:=rfl
theorem Zri {i j:Bool}:ZkT (.bl i) (.bl j)=true:=rfl
theorem Zrj {i j:Str}:ZkT (.str i) (.str j)=true:=rfl
theorem Zrk:ZkT .non .non=true:=rfl
theorem Zrl {i:Int}:ZkT .non (.int i)=true:=rfl
theorem Zrm {i:Int}:ZkT (.int i) .non=true:=rfl
section
variable {X:Cx}
noncomputable def rLen (K:Frag):List V->Hp->VK->Prop:=λxs H Q=>∃p ys,xs=[.ref p]/\(SqL K H p ys\/SqT K H p ys)/\Q (.int ys.length) H
theorem Zt {K:Frag} (hK:X.K=K):ZbL X (.builtin "len") (rLen K):=by subst hK;exact Zj3
noncomputable def rLof (K:Frag):List V->Hp->VK->Prop:=λxs H Q=>∃p ys,xs=[.ref p]/\(SqL K H p ys\/SqT K H p ys)/\∀l,H l=none->Q (.ref l) (upd H l (.lst ys))
theorem Zl9 {K:Frag} (hK:X.K=K):ZbL X (.type "list") (rLof K):=by subst hK;exact Zj4
noncomputable def rTof (K:Frag):List V->Hp->VK->Prop:=λxs H Q=>∃p ys,xs=[.ref p]/\((SqL K H p ys/\∀l,H l=none->Q (.ref l) (upd H l (.tup ys)))\/(SqT K H p ys/\Q (.ref p) H))
theorem ZgL {K:Frag} (hK:X.K=K):ZbL X (.type "tuple") (rTof K):=by subst hK;exact Zi9
theorem Zo {K:Frag} (hK:X.K=K):ZbL X (.builtin "isinstance") (rIsi K):=by subst hK;exact Zo0
end
theorem tyE {K:Frag}{H:Hp}{e C:Addr}{c:Value}{b:Bool} (he:H e=some (Zjb e C)) (Z:ExK K C) (k:kitOne K (.ref C) c=some b):tyIs K H (.ref e) c b:=.inr ⟨e,C,rfl,he,Z,k⟩
theorem Zid {K:Frag}{t:Value}:kitOne K t t=some true:=by unfold kitOne;simp
theorem ZH {K:Frag}{A C:Addr}{b:Bool} (ne:A≠C) (h1:hasDictIn K C=true) (h2:typeIn K (.ref C)=some (.type "type")) (h3:subIn K (.ref A) (.ref C)=some b):kitOne K (.ref A) (.ref C)=some b:=by
 obtain⟨cd,hc,_⟩:=any_some h1
 unfold kitOne
 rw[Yb (by intro z;exact ne (Value.ref.inj (beq_iff_eq.mp z)))]
 unfold kitCls
 dsimp only
 rw[Yc (by rw[hc,h2];rfl)]
 exact h3
theorem Zo6 {K:Frag}{A:Addr}{b:Bool} (h:subIn K (.ref A) (.type "ValueError")=some b):kitOne K (.ref A) (.type "ValueError")=some b:=by
 unfold kitOne
 rw[Yb (by intro z;cases beq_iff_eq.mp z)]
 unfold kitCls
 dsimp only
 rw[Yc (by decide +kernel)]
 exact h
theorem ty_ii {K:Frag}{H:Hp}{i:Int}:tyIs K H (.int i) (.type "int") true:=.inl ⟨_,.int i,by with_unfolding_all rfl⟩
theorem ty_ib {K:Frag}{H:Hp}{i:Int}:tyIs K H (.int i) (.type "bool") false:=.inl ⟨_,.int i,by with_unfolding_all rfl⟩
theorem Zrn {a:Addr}{x:Value}:(cOf (.ref a)=some x)=(.ref a=x):=by simp[cOf]
theorem cOf_ty {n:String}{x:Value}:(cOf (.ty n)=some x)=(.type n=x):=by simp[cOf]
theorem Zo7 {α:Type}{f:Nat->Option α}{g:Nat->α}:∀{l:List Nat},(∀k∈l,f k=some (g k))->l.filterMap f=l.map g
 |[],_=>rfl
 |k::r,h=>by
  rw[List.filterMap_cons,h k (YO ..),YF,Zo7 λj hj=>h j (YK _ hj)]
theorem Zo8 (its:List Value):slicePick its.toArray none none (some (-1))=its.reverse.toArray:=by
 have e:=PyProof.Rows.picked_rev its.length
 unfold Builtin.Str.strSliceIndices at e
 have e2:sliceRange ((its.length:Int)-1) (-1) (-1)=(List.range its.length).map λk=>its.length-1-k:=by
  rw[<-e];rfl
 unfold slicePick
 congr 1
 show((sliceRange ((its.toArray.size:Int)-1) (-1) (-1)).filterMap (its.toArray[·]?))=_
 rw[Yo,e2,List.filterMap_map,Zo7 (g:=λk=>(its.reverse[k]?).getD .none)]
 ·refine List.ext_getElem (by simp) λj h1 h2=>?_
  have hj:j<its.length:=by simpa using h1
  simp[hj]
 ·intro k hk
  have hk':k<its.length:=Yz.mp hk
  have h3:its.length-1-k<its.length:=by omega
  simp[hk',h3]
section
variable {X:Cx}{e st:Expr}{te ts:TE}{pos p2:Pos}
noncomputable def tRev (K:Frag) (te ts:TE):TE:=fun σ H Q=>te σ H λx H1=>ts σ H1 λz H2=>∃a xs,x=.ref a/\z=.int (-1)/\SqL K H2 a xs/\∀p,H2 p=none->Q (.ref p) (upd H2 p (.lst xs.reverse))
theorem Vals.rev:∀{xs:List V}{us:List Value},Vals xs us->Vals xs.reverse us.reverse:=by
 intro xs us h
 induction h with
 |nil=>exact .nil
 |cons r _ ih=>rw[List.reverse_cons,List.reverse_cons];exact ih.append (.cons r .nil)
theorem Znn {K:Frag} (hK:X.K=K) (he:PE X e te) (hs:PE X st ts):PE X (.Subscript e (.Slice none none (some st) p2) pos) (tRev K te ts):=by
 subst hK
 intro pins s σ H Q I h
 refine Subscript_ (thn (he pins s σ H _ I h) λv s1 ⟨x,H1,I1,r1,q1⟩=>?_)
 refine wpAny_Slice ?_
 rw[evalPart_none]
 refine Ye ?_
 refine Ye ?_
 rw[evalPart_some]
 refine thn (hs pins s1 σ H1 _ I1 q1) λvs s2 ⟨z,H2,I2,r2,a,xs,e1,e2,hx,q⟩=>?_
 subst e1 e2
 obtain⟨tk,rfl⟩:=r2
 cases r1
 have I4:Inv X pins σ H2 {s2 with heap:=s2.heap.push {cls:=.type "slice",data:=.fields #[.none,.none,.int (-1) tk]}}:=I2.kept (t':=s2.toks) λb ob q=>Yg _ q
 show wpAny (model X.prog X.w) X.A (subscriptTail e (.Slice none none (some st) p2) (.ref a) (.ref s2.heap.objs.size)) (EP X pins σ Q) X.xe {s2 with heap:=s2.heap.push {cls:=.type "slice",data:=.fields #[.none,.none,.int (-1) tk]}}
 obtain⟨its,r,ht,hz⟩:=I4.list hx
 have hlen:=r.length
 refine tail_any (ops:=[.ref a,.ref s2.heap.objs.size]) ht.isList.typeIs slot_list_getitem.lookup ?_ (by with_unfolding_all rfl)
 refine wpAny_getItem_list_slice (s:={s2 with heap:=s2.heap.push {cls:=.type "slice",data:=.fields #[.none,.none,.int (-1) tk]}}) ht.isList (Heap.IsSliceOf.new ..) .none .none (.int (-1) tk) (by simp) ?_ (by rw[Yo]<;>omega)
 rw[Zo8]
 refine⟨.ref _,_,I4.laid (t':=s2.toks) (o:=.lst xs.reverse) (λb ob q=>Yg _ q) (Yd _) ?_,rfl,q _ (I4.hok.fresh (Yd _))⟩
 exact⟨by rw[List.length_reverse];exact hz,_,0,r.rev,Ym _ rfl⟩
end
noncomputable def ZG (t:Int):List Int->List Int
 |[]=>[]
 |x::r=>(t+x)::ZG (t+x) r
theorem ZbU (t:Int) (l r:List Int):ZG t (l++r)=ZG t l++ZG (t+l.sum) r:=by
 induction l generalizing t with
 |nil=>simp[ZG]
 |cons x l ih=>simp only[List.cons_append,ZG,ih,List.sum_cons,Int.add_assoc]
theorem ZbV (t:Int) (l:List Int):(ZG t l).length=l.length:=by
 induction l generalizing t with
 |nil=>rfl
 |cons x l ih=>simp[ZG,ih]
noncomputable def suf:List Int->List Int
 |[]=>[]
 |x::r=>(x+r.sum)::suf r
noncomputable def grow (l:List Int):List Int:=l.sum::suf l
noncomputable def stepW (m:Nat) (l:List Int):List Int:=(grow l).take (min m l.length+1)
noncomputable def ways (m:Nat):Nat->List Int
 |0=>[1]
 |t+1=>stepW m (ways m t)
theorem Zo9 (xs:List V):ZcV xs none (some (-1))=xs.take (xs.length-1):=by
 unfold ZcV HT.sIx
 cases xs<;>simp
 omega
theorem Zro {xs:List Int}{z:Int} (h:xs.getLast?=some z):atI (xs.map V.int) (-1)=some (V.int z):=by
 unfold atI ixN
 cases xs with
 |nil=>cases h
 |cons x r =>
  have hl:((x::r).map V.int).length=r.length+1:=by simp
  rw[hl,Yb (by omega),Yc (by omega)]
  have e:(-1+((r.length+1:Nat):Int)).toNat=r.length:=by omega
  rw[List.getLast?_eq_getElem?]at h
  show((x::r).map V.int)[(-1+((r.length+1:Nat):Int)).toNat]?=_
  rw[e,YC]
  have e2:(x::r).length-1=r.length:=by simp
  rw[e2]at h
  rw[h];rfl
noncomputable def Rows (H:Hp) (l:Addr) (rs:List (List Int)):Prop:=∃as:List Addr,H l=some (.lst (as.map V.ref))/\l∉as/\as.length=rs.length/\∀i (h1:i<as.length) (h2:i<rs.length),H as[i]=some (.lst (rs[i].map V.int))
inductive EqD (K:Frag) (H:Hp):Nat->V->V->Bool->Prop
 |flat {n:Nat}{x y:V} (fx:flatV x=true) (fy:flatV y=true):EqD K H n x y (eqV x y)
 |lst {n:Nat}{a b:Addr}{xs ys:List V} (e:Nat->Bool) (hx:SqL K H a xs) (hy:SqL K H b ys) (hl:xs.length=ys.length) (h:∀j x y,xs[j]?=some x->ys[j]?=some y->EqD K H n x y (e j)):EqD K H (n+1) (.ref a) (.ref b) ((List.range xs.length).all e)
 |len {n:Nat}{a b:Addr}{xs ys:List V} (hx:SqL K H a xs) (hy:SqL K H b ys) (hl:xs.length≠ys.length):EqD K H (n+1) (.ref a) (.ref b) false
 |tup {n:Nat}{a b:Addr}{xs ys:List V} (e:Nat->Bool) (hx:SqT K H a xs) (hy:SqT K H b ys) (h:∀j x y,xs[j]?=some x->ys[j]?=some y->EqD K H n x y (e j)):EqD K H (n+1) (.ref a) (.ref b) ((List.range (min xs.length ys.length)).all e&&xs.length==ys.length)
theorem Zpa {x:V} (h:flatV x=true):eqV x x=true:=by
 cases x<;>first
  |rfl
  |(simp[eqV];done)
  |cases h
section
variable {X:Cx}{pins:List (Addr×Obj)}{σ:St}{H:Hp}{s:Shared}
theorem Zk1 (I:Inv X pins σ H s) {n:Nat}{x y:V}{b:Bool} (h:EqD X.K H n x y b):x=y->b=true:=by
 induction h with
 |flat fx fy=>rintro rfl;exact Zpa fx
 |lst e hx hy hl h ih =>
  intro z
  cases z
  have:=I.Zde hx hy
  subst this
  refine List.all_eq_true.mpr λj hj=>?_
  have hj':=Yz.mp hj
  exact ih j _ _ (Yi hj') (Yi hj') rfl
 |len hx hy hl =>
  intro z
  cases z
  have:=I.Zde hx hy
  subst this
  exact absurd rfl hl
 |tup e hx hy h ih =>
  intro z
  cases z
  have:=I.ZgH hx hy
  subst this
  rw[Nat.min_self]
  have:(List.range _).all e=true:=List.all_eq_true.mpr λj hj=>by
   have hj':=Yz.mp hj
   exact ih j _ _ (Yi hj') (Yi hj') rfl
  rw[this];simp
theorem Zka (I:Inv X pins σ H s) {n:Nat}{x y:V}{b:Bool} (h:EqD X.K H n x y b):∀(A:Around) (u v:Value),A.units+n<cLine->RelV x u->RelV y v->SeqAt.EqAt A s u v b:=by
 induction h with
 |flat fx fy=>intro A u v _ ru rv;exact eqAt_V ru rv fx fy
 |@lst n a b xs ys e hx hy hl h ih =>
  intro A u v hu ru rv
  have hb:=Zk1 I (.lst e hx hy hl h)
  cases ru
  cases rv
  by_cases hab:a=b
  ·subst hab
   rw[hb rfl];exact SeqAt.EqAt.same _
  ·obtain⟨is1,r1,p1,_⟩:=I.list hx
   obtain⟨is2,r2,p2,_⟩:=I.list hy
   have e1:=r1.length
   have e2:=r2.length
   have key:=SeqAt.RcAt.lists (A:=A) (s:=s) (e:=e) p1.isList p2.isList (by simp;omega) (by omega) λj h1 h2=>by
    have h1':j<xs.length:=by simpa[e1]using h1
    have h2':j<ys.length:=by simpa[e2]using h2
    obtain⟨u,hu1,ru⟩:=r1.get (Yi h1')
    obtain⟨v,hv1,rv⟩:=r2.get (Yi h2')
    have eu:is1.toArray[j]=u:=by simpa using(Yp.mp hu1).2
    have ev:is2.toArray[j]=v:=by simpa using(Yp.mp hv1).2
    rw[eu,ev]
    exact ih j _ _ (Yi h1') (Yi h2') A.in1 u v (by show A.units+1+n<cLine;omega) ru rv
   have e3:is1.toArray.size=xs.length:=by simp[e1]
   rw[e3]at key
   exact SeqAt.EqAt.of_refs hab key
 |@len n a b xs ys hx hy hl =>
  intro A u v hu ru rv
  cases ru
  cases rv
  have hab:a≠b:=λz=>by subst z;exact hl (congrArg List.length (I.Zde hx hy))
  obtain⟨is1,r1,p1,_⟩:=I.list hx
  obtain⟨is2,r2,p2,_⟩:=I.list hy
  have e1:=r1.length
  have e2:=r2.length
  exact SeqAt.EqAt.of_refs hab (SeqAt.RcAt.lists_lengths p1.isList p2.isList (by simp;omega) (by omega))
 |@tup n a b xs ys e hx hy h ih =>
  intro A u v hu ru rv
  have hb:=Zk1 I (.tup e hx hy h)
  cases ru
  cases rv
  by_cases hab:a=b
  ·subst hab
   rw[hb rfl];exact SeqAt.EqAt.same _
  ·obtain⟨is1,r1,p1,_⟩:=I.tuple hx
   obtain⟨is2,r2,p2,_⟩:=I.tuple hy
   have e1:=r1.length
   have e2:=r2.length
   have key:=SeqAt.RcAt.tuples (A:=A) (s:=s) (e:=e) p1 p2 (by omega) λj h1 h2=>by
    have h1':j<xs.length:=by simpa[e1]using h1
    have h2':j<ys.length:=by simpa[e2]using h2
    obtain⟨u,hu1,ru⟩:=r1.get (Yi h1')
    obtain⟨v,hv1,rv⟩:=r2.get (Yi h2')
    have eu:is1.toArray[j]=u:=by simpa using(Yp.mp hu1).2
    have ev:is2.toArray[j]=v:=by simpa using(Yp.mp hv1).2
    rw[eu,ev]
    exact ih j _ _ (Yi h1') (Yi h2') A.in1 u v (by show A.units+1+n<cLine;omega) ru rv
   have e3:is1.toArray.size=xs.length:=by simp[e1]
   have e4:is2.toArray.size=ys.length:=by simp[e2]
   rw[e3,e4]at key
   exact SeqAt.EqAt.of_refs hab key
end
noncomputable def rEqD (K:Frag) (neg:Bool):R2:=λx y H Q=>∃a b k,x=.ref a/\y=.ref b/\EqD K H 3 x y k/\Q (.bl (if neg then !k else k)) H
section
variable {X:Cx}
theorem Zkb {K:Frag} (hK:X.K=K) {k:Nat} (hr:Room k X.A):OpR X (compareOp .Eq) (rEqD K false):=by
 subst hK
 have hu0:=hr.un
 intro pins s σ H x y v u Q I rx ry h
 obtain⟨a,b,k,rfl,rfl,h,q⟩:=h
 cases rx
 cases ry
 cases h with
 |flat fx fy=>cases fx
 |@lst n _ _ xs ys e hx hy hl h =>
  obtain⟨is1,r1,p1,_⟩:=I.list hx
  obtain⟨is2,r2,p2,_⟩:=I.list hy
  have e1:=r1.length
  have e2:=r2.length
  have e3:is1.toArray.size=xs.length:=by simp[e1]
  refine SeqAt.eq_listAt (e:=e) p1.isList p2.isList (by simp;omega) (by omega) (λj h1 h2=>?_) ⟨.bl _,H,I,rfl,by rw[e3];exact q⟩
  have h1':j<xs.length:=by simpa[e1]using h1
  have h2':j<ys.length:=by simpa[e2]using h2
  obtain⟨u,hu1,ru⟩:=r1.get (Yi h1')
  obtain⟨v,hv1,rv⟩:=r2.get (Yi h2')
  have eu:is1.toArray[j]=u:=by simpa using(Yp.mp hu1).2
  have ev:is2.toArray[j]=v:=by simpa using(Yp.mp hv1).2
  rw[eu,ev]
  exact Zka I (h j _ _ (Yi h1') (Yi h2')) X.A.in1 u v (by show X.A.units+1+2<cLine;omega) ru rv
 |@len n _ _ xs ys hx hy hl =>
  obtain⟨is1,r1,p1,_⟩:=I.list hx
  obtain⟨is2,r2,p2,_⟩:=I.list hy
  have e1:=r1.length
  have e2:=r2.length
  exact SeqAt.eq_list_lengthsAt p1.isList p2.isList (by simp;omega) (by omega) ⟨.bl _,H,I,rfl,q⟩
 |@tup n _ _ xs ys e hx hy h =>
  obtain⟨is1,r1,p1,_⟩:=I.tuple hx
  obtain⟨is2,r2,p2,_⟩:=I.tuple hy
  have e1:=r1.length
  have e2:=r2.length
  have e3:is1.toArray.size=xs.length:=by simp[e1]
  have e4:is2.toArray.size=ys.length:=by simp[e2]
  refine SeqAt.eq_tupleAt (e:=e) p1 p2 (by omega) (λj h1 h2=>?_) ⟨.bl _,H,I,rfl,by rw[e3,e4];exact q⟩
  have h1':j<xs.length:=by simpa[e1]using h1
  have h2':j<ys.length:=by simpa[e2]using h2
  obtain⟨u,hu1,ru⟩:=r1.get (Yi h1')
  obtain⟨v,hv1,rv⟩:=r2.get (Yi h2')
  have eu:is1.toArray[j]=u:=by simpa using(Yp.mp hu1).2
  have ev:is2.toArray[j]=v:=by simpa using(Yp.mp hv1).2
  rw[eu,ev]
  exact Zka I (h j _ _ (Yi h1') (Yi h2')) X.A.in1 u v (by show X.A.units+1+2<cLine;omega) ru rv
theorem Zpb {K:Frag} (hK:X.K=K) {k:Nat} (hr:Room k X.A):OpR X (compareOp .NotEq) (rEqD K true):=by
 subst hK
 have hu0:=hr.un
 intro pins s σ H x y v u Q I rx ry h
 obtain⟨a,b,k,rfl,rfl,h,q⟩:=h
 cases rx
 cases ry
 cases h with
 |flat fx fy=>cases fx
 |@lst n _ _ xs ys e hx hy hl h =>
  obtain⟨is1,r1,p1,_⟩:=I.list hx
  obtain⟨is2,r2,p2,_⟩:=I.list hy
  have e1:=r1.length
  have e2:=r2.length
  have e3:is1.toArray.size=xs.length:=by simp[e1]
  refine SeqAt.RcNeAt.lists (e:=e) p1.isList p2.isList (by simp;omega) (by omega) (λj h1 h2=>?_) _ _ _ _ ⟨.bl _,H,I,rfl,by rw[e3];exact q⟩
  have h1':j<xs.length:=by simpa[e1]using h1
  have h2':j<ys.length:=by simpa[e2]using h2
  obtain⟨u,hu1,ru⟩:=r1.get (Yi h1')
  obtain⟨v,hv1,rv⟩:=r2.get (Yi h2')
  have eu:is1.toArray[j]=u:=by simpa using(Yp.mp hu1).2
  have ev:is2.toArray[j]=v:=by simpa using(Yp.mp hv1).2
  rw[eu,ev]
  exact Zka I (h j _ _ (Yi h1') (Yi h2')) X.A.in1 u v (by show X.A.units+1+2<cLine;omega) ru rv
 |@len n _ _ xs ys hx hy hl =>
  obtain⟨is1,r1,p1,_⟩:=I.list hx
  obtain⟨is2,r2,p2,_⟩:=I.list hy
  have e1:=r1.length
  have e2:=r2.length
  exact SeqAt.RcNeAt.lists_lengths p1.isList p2.isList (by simp;omega) (by omega) _ _ _ _ ⟨.bl _,H,I,rfl,q⟩
 |@tup n _ _ xs ys e hx hy h =>
  obtain⟨is1,r1,p1,_⟩:=I.tuple hx
  obtain⟨is2,r2,p2,_⟩:=I.tuple hy
  have e1:=r1.length
  have e2:=r2.length
  have e3:is1.toArray.size=xs.length:=by simp[e1]
  have e4:is2.toArray.size=ys.length:=by simp[e2]
  refine SeqAt.RcNeAt.tuples (e:=e) p1 p2 (by omega) (λj h1 h2=>?_) _ _ _ _ ⟨.bl _,H,I,rfl,by rw[e3,e4];exact q⟩
  have h1':j<xs.length:=by simpa[e1]using h1
  have h2':j<ys.length:=by simpa[e2]using h2
  obtain⟨u,hu1,ru⟩:=r1.get (Yi h1')
  obtain⟨v,hv1,rv⟩:=r2.get (Yi h2')
  have eu:is1.toArray[j]=u:=by simpa using(Yp.mp hu1).2
  have ev:is2.toArray[j]=v:=by simpa using(Yp.mp hv1).2
  rw[eu,ev]
  exact Zka I (h j _ _ (Yi h1') (Yi h2')) X.A.in1 u v (by show X.A.units+1+2<cLine;omega) ru rv
end
noncomputable def IsI (v:V) (i:Int):Prop:=v=.int i
noncomputable def IsL (K:Frag) (H:Hp) {α:Type} (P:V->α->Prop) (v:V) (as:List α):Prop:=∃a xs,v=.ref a/\SqL K H a xs/\xs.length=as.length/\∀(j:Nat) (x:V) (y:α),xs[j]?=some x->as[j]?=some y->P x y
noncomputable def IsT (K:Frag) (H:Hp) {α:Type} (P:V->α->Prop) (v:V) (as:List α):Prop:=∃a xs,v=.ref a/\SqT K H a xs/\xs.length=as.length/\∀(j:Nat) (x:V) (y:α),xs[j]?=some x->as[j]?=some y->P x y
noncomputable def EqP (K:Frag) (H:Hp) (n:Nat) {α:Type} [DecidableEq α] (P:V->α->Prop):Prop:=∀x y a b,P x a->P y b->EqD K H n x y (decide (a=b))
theorem Zgb {K:Frag}{H:Hp}{n:Nat}:EqP K H n IsI:=by
 rintro x y a b rfl rfl
 have:=EqD.flat (K:=K) (H:=H) (n:=n) (x:=.int a) (y:=.int b) rfl rfl
 have e:eqV (.int a) (.int b)=decide (a=b):=by simp[eqV,Bool.beq_eq_decide_eq]
 rw[<-e];exact this
theorem all_eq {α:Type} [DecidableEq α] (as bs:List α) (h:as.length=bs.length):(List.range as.length).all (λj=>decide (as[j]?=bs[j]?))=decide (as=bs):=by
 rw[Bool.eq_iff_iff,List.all_eq_true,decide_eq_true_iff]
 constructor
 ·intro q
  refine List.ext_getElem? λj=>?_
  by_cases hj:j<as.length
  ·simpa using q j (Yz.mpr hj)
  ·rw[List.getElem?_eq_none (by omega),List.getElem?_eq_none (by omega)]
 ·rintro rfl j _;simp
theorem ZmQ {K:Frag}{H:Hp}{n:Nat}{α:Type} [DecidableEq α] {P:V->α->Prop} (h:EqP K H n P):EqP K H (n+1) (IsL K H P):=by
 rintro x y as bs ⟨a,xs,rfl,hx,lx,px⟩ ⟨b,ys,rfl,hy,ly,py⟩
 by_cases hl:as.length=bs.length
 ·rw[<-all_eq as bs hl,<-lx]
  refine .lst _ hx hy (by omega) λj x y h1 h2=>?_
  have j1:=(Yp.mp h1).1
  have j2:=(Yp.mp h2).1
  have ha:as[j]?=some as[j]:=Yi (by omega)
  have hb:bs[j]?=some bs[j]:=Yi (by omega)
  have:=h x y _ _ (px j _ _ h1 ha) (py j _ _ h2 hb)
  rw[ha,hb]
  simpa using this
 ·have e:decide (as=bs)=false:=by simp;intro z;exact hl (congrArg List.length z)
  rw[e]
  exact .len hx hy (by omega)
theorem Zkc {K:Frag}{H:Hp}{n:Nat}{α:Type} [DecidableEq α] {P:V->α->Prop} (h:EqP K H n P):EqP K H (n+1) (IsT K H P):=by
 rintro x y as bs ⟨a,xs,rfl,hx,lx,px⟩ ⟨b,ys,rfl,hy,ly,py⟩
 have key:=EqD.tup (K:=K) (H:=H) (n:=n) (λj=>decide (as[j]?=bs[j]?)) hx hy λj x y h1 h2=>by
  have j1:=(Yp.mp h1).1
  have j2:=(Yp.mp h2).1
  have ha:as[j]?=some as[j]:=Yi (by omega)
  have hb:bs[j]?=some bs[j]:=Yi (by omega)
  have:=h x y _ _ (px j _ _ h1 ha) (py j _ _ h2 hb)
  rw[ha,hb]
  simpa using this
 have e:((List.range (min xs.length ys.length)).all (λj=>decide (as[j]?=bs[j]?))&&xs.length==ys.length)=decide (as=bs):=by
  rw[lx,ly]
  by_cases hl:as.length=bs.length
  ·rw[<-hl,Nat.min_self,all_eq as bs hl];simp
  ·have e:decide (as=bs)=false:=by simp;intro z;exact hl (congrArg List.length z)
   rw[e]
   simp[hl]
 rw[e]at key
 exact key
theorem Zgc {K:Frag}{H:Hp}{a:Addr}{ns:List Int} (h:SqL K H a (ns.map V.int)):IsL K H IsI (.ref a) ns:=⟨a,_,rfl,h,by simp,λj x y h1 h2=>by
 rw[YC,h2]at h1
 exact(Yy h1).symm⟩
theorem Zdh {K:Frag}{H:Hp}{a:Addr}{ns:List Int} (h:SqT K H a (ns.map V.int)):IsT K H IsI (.ref a) ns:=⟨a,_,rfl,h,by simp,λj x y h1 h2=>by
 rw[YC,h2]at h1
 exact(Yy h1).symm⟩
section
variable {X:Cx}
noncomputable def tRngV (ta:TA):TE:=fun σ H Q=>ta σ H λvs H1=>∃j:Int,vs=[.int j]/\-(2 ^ 62)<=j/\j<2 ^ 62/\∀p,H1 p=none->Q (.ref p) (upd H1 p (.rng 0 j))
theorem ZjC {a:Expr}{ta:TA}{p pos:Pos} (hg:Gl X "range") (hm:X.mg "range"=none) (ha:PA X [a] ta) (hs:starEach [a] X.env=[(false,eval a X.env)]:=by rfl):PE X (.Call (.Name "range" p) [a] [] pos) (tRngV ta):=by
 intro pins s σ H Q I h
 refine wpAny_Call_Name_kw (ZaW I hg hm boot_range (PyProof.Rows.callWith_type1 (thn (ha pos pins s σ H _ I h) λus s1 ⟨vs,H1,I1,r1,q1⟩=>?_) hs rfl))
 obtain⟨j,e,q1,q2,q⟩:=q1
 subst e
 obtain⟨u,rfl,ru⟩:=r1.one
 obtain⟨t,rfl⟩:=ru
 refine call_range_1 ⟨.ref s1.heap.objs.size,_,I1.laid (λb o e=>Yg _ e) (Yd _) ?_,rfl,q _ (I1.hok.fresh (Yd _))⟩
 exact⟨_,_,_,Ym _ rfl⟩
theorem ZmR {g:Nat->V}{P:Nat->Value->Prop} (hP:∀i v,P i v->RelV (g i) v):∀(n:Nat) (us:List Value),us.length=n->(∀(j:Nat) (v:Value),us[j]?=some v->P j v)->Vals ((List.range n).map g) us:=by
 intro n
 induction n with
 |zero =>
  intro us hl _
  cases us with
  |nil=>exact .nil
  |cons _ _=>cases hl
 |succ n ih =>
  intro us hl h
  have hne:us≠[]:=λz=>by rw[z]at hl;cases hl
  rw[YQ,YV,<-List.dropLast_concat_getLast hne]
  have hl2:us.dropLast.length=n:=by rw[List.length_dropLast,hl];rfl
  refine(ih us.dropLast hl2 λj v hj=>?_).append (.cons ?_ .nil)
  ·have hj2:=(Yp.mp hj).1
   refine h j v ?_
   rw[List.getElem?_dropLast]at hj
   split at hj
   ·exact hj
   ·cases hj
  ·refine hP n _ (h n _ ?_)
   rw[List.getLast_eq_getElem]
   rw[Yp]
   refine⟨by omega,?_⟩
   congr 1
   omega
noncomputable def rAll (K:Frag):List V->Hp->VK->Prop:=λxs H Q=>∃(p:Addr) (bs:List Bool),xs=[.ref p]/\SqL K H p (bs.map V.bl)/\Q (.bl (bs.all id)) H
theorem all_ix (bs:List Bool):(List.range bs.length).all (λi=>bs.getD i false)=bs.all id:=by
 rw[Bool.eq_iff_iff,List.all_eq_true,List.all_eq_true]
 constructor
 ·intro h x hx
  obtain⟨j,hj,rfl⟩:=Y4 hx
  have:=h j (Yz.mpr hj)
  simpa[Yr,hj]using this
 ·intro h j hj
  have hj':=Yz.mp hj
  have:=h _ (YY hj')
  simpa[Yr,hj']using this
theorem Zk2 {prog:Program}{w:World}{A:Around}{bs:List Bool}{its:List Value} (r:Vals (bs.map V.bl) its):TruthOf prog w A (λi v=>its.toArray[i]?=some v) (λi=>bs.getD i false):=by
 intro i v s Q E hv hq
 have hv':its[i]?=some v:=by simpa using hv
 have hl:=r.length
 have hi:i<bs.length:=by
  have:=(Yp.mp hv').1
  rw[Yh]at hl;omega
 obtain⟨u,hu,ru⟩:=r.get (i:=i) (x:=V.bl bs[i]) (by rw[YC,Yi hi];rfl)
 rw[hv']at hu
 cases hu
 cases ru
 refine wpAny_truthy_bool ?_
 simpa[Yr,hi]using hq
theorem Zie {K:Frag} (hK:X.K=K) (hc:X.calm=true):ZbL X (.builtin "all") (rAll K):=by
 subst hK
 intro pins s σ H xs us Q I r h
 obtain⟨p,bs,rfl,hp,q⟩:=h
 obtain⟨u,rfl,ru⟩:=r.one
 cases(show u=Value.ref p from ru)
 obtain⟨its,r',pl,hz⟩:=I.list hp
 have hl:=r'.length
 refine call_all_walk (wpAny_pyIter_list pl.isList ?_)
 have hne:p≠s.heap.objs.size:=by obtain⟨o,e,_⟩:=pl.isList;exact Yk (Yj e)
 refine⟨s.heap.objs.size,_,_,_,_,_,λi=>bs.getD i false,rfl,Walks.list (A:=X.A.in1) (show X.A.in1.handled=none from I.ok.hd hc) _ p hne its.toArray,⟨⟨_,Ym _ rfl,rfl,rfl⟩,pl.isList.push _⟩,Zk2 r',λh' tk kp=>?_⟩
 have e1:its.toArray.size=bs.length:=by rw[Yo];rw[Yh]at hl;omega
 rw[e1,all_ix]
 exact⟨.bl _,H,I.kept (t':=tk) λb o e=>kp b o (by simp;exact Yk (Yj e)) (Yg _ e),rfl,q⟩
noncomputable def ipM:TIp:=λx y H Q=>∃i j,x=.int i/\y=.int j/\IntMulOk i j/\Q (.int (i*j)) H
theorem Zpc:PIp X .Mult ipM:=by
 intro pins s σ H x y v u Q I r1 r2 h
 obtain⟨i,j,e1,e2,hm,q⟩:=h
 subst e1;subst e2
 obtain⟨t,rfl⟩:=r1
 obtain⟨t',rfl⟩:=r2
 exact imul_int ⟨.int _,H,I.tok _,⟨_,rfl⟩,q⟩ hm
noncomputable def rIxQ (K:Frag):R2:=λx y H Q=>∃p xs i v,x=.ref p/\y=.int i/\(SqL K H p xs\/SqT K H p xs)/\atI xs i=some v/\Q v H
theorem Zno {K:Frag} (hK:X.K=K):IxR X (rIxQ K):=by
 subst hK
 intro value slice pins s σ H x y v u Q I rx ry h hs
 refine(ZA.or Zbz) (value:=value) (slice:=slice) pins s σ H x y v u Q I rx ry ?_ hs
 obtain⟨p,xs,i,v,rfl,rfl,hq,ha,q⟩:=h
 rcases hq with hq|hq
 ·exact .inl ⟨p,xs,i,v,rfl,rfl,hq,ha,q⟩
 ·exact .inr ⟨p,xs,i,v,rfl,rfl,hq,ha,q⟩
theorem Zma:bootBuiltins "all"=some (.builtin "all"):=by decide +kernel
end
noncomputable def ZjD (f:Nat->Int) (a b p:Nat):Prop:=a<=p/\p<=b/\(∀q,a<=q->q<p->f p<f q)/\∀q,p<q->q<=b->f p<=f q
theorem ZjD.join {f:Nat->Int}{a m a' b p q:Nat} (h:ZjD f a m p) (k:ZjD f a' b q) (h1:a<=a') (h2:a'<=m+1) (h3:m<=b):ZjD f a b (if f q<f p then q else p):=by
 obtain⟨p1,p2,p3,p4⟩:=h
 obtain⟨q1,q2,q3,q4⟩:=k
 have pm:∀r,a<=r->r<=m->f p<=f r:=λr r1 r2=>by
  rcases Nat.lt_trichotomy r p with z|z|z
  ·exact Int.le_of_lt (p3 r r1 z)
  ·rw[z];exact Int.le_refl _
  ·exact p4 r z r2
 have qm:∀r,a'<=r->r<=b->f q<=f r:=λr r1 r2=>by
  rcases Nat.lt_trichotomy r q with z|z|z
  ·exact Int.le_of_lt (q3 r r1 z)
  ·rw[z];exact Int.le_refl _
  ·exact q4 r z r2
 split
 ·rename_i hlt
  refine⟨by omega,q2,λr r1 r2=>?_,λr r1 r2=>qm r (by omega) r2⟩
  by_cases z:a'<=r
  ·exact q3 r z r2
  ·have:=pm r r1 (by omega);omega
 ·rename_i hle
  refine⟨p1,by omega,p3,λr r1 r2=>?_⟩
  by_cases z:r<=m
  ·exact p4 r r1 z
  ·have:=qm r (by omega) r2;omega
noncomputable def Znp (f:Nat->Int) (a:Nat):Nat->Nat
 |0=>a
 |c+1=>if f (a+c+1)<f (Znp f a c)then a+c+1 else Znp f a c
theorem ZjE (f:Nat->Int) (a:Nat):ZjD f a a a:=⟨Yd _,Yd _,λq h1 h2=>by omega,λq h1 h2=>by omega⟩
theorem ZmS (f:Nat->Int) (a c:Nat):ZjD f a (a+c) (Znp f a c):=by
 induction c with
 |zero=>exact ZjE f a
 |succ c ih =>
  rw[Znp]
  exact ih.join (ZjE f (a+c+1)) (by omega) (by omega) (by omega)
noncomputable def nth (ns:List Int) (i:Nat):Int:=ns.getD i 0
theorem Za7 {ns:List Int}{i:Nat} (h:i<ns.length):atI (ns.map V.int) (i:Int)=some (V.int (nth ns i)):=by
 rw[Zl8 rfl (by simpa using h)]
 simp[nth,Yr,h]
noncomputable def WI (N:Nat) (Pv:Nat->St->Hp->Prop) (m:Nat) (σ:St) (H:Hp):Prop:=∃i,m=N-i/\i<=N/\Pv i σ H
theorem WI.next {N:Nat}{Pv:Nat->St->Hp->Prop}{i:Nat}:∀σ' H',(i+1<=N/\Pv (i+1) σ' H')->∃m',m'<N-i/\WI N Pv m' σ' H':=fun σ' H' h=>⟨N-(i+1),by omega,i+1,rfl,h.1,h.2⟩
theorem Zkd {c:TT}{tb:TS}{D:Ends}{σ:St}{H:Hp} (N:Nat) (Pv:Nat->St->Hp->Prop) (h0:Pv 0 σ H)
  (hs:∀i σ H,i<=N->Pv i σ H->c σ H λb H1=>if b=true then ∃Nx:St->Hp->Prop,(∀σ' H',Nx σ' H'->∃m',m'<N-i/\WI N Pv m' σ' H')/\tb {D with nx:=Nx,ct:=Nx,bk:=D.nx} σ H1 else D.nx σ H1):Zl7 c tb D σ H:=by
 refine⟨WI N Pv,⟨N,0,rfl,Yn _,h0⟩,?_⟩
 rintro m σ H ⟨i,rfl,hi,p⟩
 exact hs i σ H hi p
theorem Zg.Zav {K:Frag}{H H':Hp}{a:Addr}{xs:List V} (e:Zg H H') (h:SqT K H a xs):SqT K H' a xs:=by
 rcases h with(h|⟨o,h⟩)|h
 ·exact .inl (.inl (e _ _ h))
 ·exact .inl (.inr ⟨o,e _ _ h⟩)
 ·exact .inr h
theorem Zg.q {K:Frag}{H H':Hp}{a:Addr}{xs:List V} (e:Zg H H') (h:SqL K H a xs\/SqT K H a xs):SqL K H' a xs\/SqT K H' a xs:=h.imp e.seq e.Zav
theorem Exc.trans {p:Addr}{H H1 H2:Hp} (a:Exc p H H1) (b:Exc p H1 H2):Exc p H H2:=λc o n z=>b c o n (a c o n z)
theorem Exc.free {p q:Addr}{H H':Hp} (e:Exc p H H') (n:q≠p) (h:H' q=none):H q=none:=by
 cases z:H q with
 |none=>rfl
 |some o=>rw[e q o n z]at h;cases h
theorem Exc.Zeg {p q:Addr}{H H':Hp}{o:HO} (e:Exc p H H') (h:H q=none):Exc p H (L2.upd H' q o):=λb u n z=>by
 rw[Zh (Zr z h)];exact e b u n z
theorem Exc.same {p:Addr}{H H1 H2:Hp} (a:Exc p H H1) (s:Zg H1 H2):Exc p H H2:=a.trans s.Zfv
section
variable {X:Cx}{a b c d:Expr}{ta tb tc td:TE}{pos:Pos}
noncomputable def iSeq (K:Frag) (tl:TE):TI:=fun σ H R=>tl σ H λx H1=>∃a,x=.ref a/\(((∃xs,SqL K H1 a xs)/\R (Itl K a) H1)\/((∃xs,SqT K H1 a xs)/\R (Itt K a) H1))
theorem Zmb {tg l:Expr}{tl:TE}{K:Frag} (hK:X.K=K) (hl:PE X l tl):PI X tg l (iSeq K tl):=by
 subst hK
 intro pins s σ H R I h
 refine thn (hl pins s σ H _ I h) λv s1 ⟨x,H1,I1,r1,q1⟩=>?_
 obtain⟨a,e,q1⟩:=q1
 subst e
 cases r1
 rcases q1 with⟨⟨xs,hq⟩,q⟩|⟨⟨xs,hq⟩,q⟩
 ·obtain⟨its,rv,p,hz⟩:=I1.list hq
  refine wpAny_pyIter_list p.isList ?_
  refine⟨s1.heap.objs.size,[s1.heap.objs.size],_,_,H1,rfl,I1.kept (t':=s1.toks) λb o e=>Yg _ e,Zjs a _,⟨_,Ym _ rfl,rfl,rfl⟩,λb hb=>?_,q⟩
  have e:b=s1.heap.objs.size:=by simpa using hb
  subst e
  exact I1.Zh4 (Yd _) (I1.hok.fresh (Yd _))
 ·obtain⟨its,rv,p,hz⟩:=I1.tuple hq
  refine wpAny_pyIter_tuple (show s1.heap.IsTuple a its.toArray from p) ?_
  refine⟨s1.heap.objs.size,[s1.heap.objs.size],_,_,H1,rfl,I1.kept (t':=s1.toks) λb o e=>Yg _ e,Zh5 a _,⟨_,Ym _ rfl,rfl,rfl⟩,λb hb=>?_,q⟩
  have e:b=s1.heap.objs.size:=by simpa using hb
  subst e
  exact I1.Zh4 (Yd _) (I1.hok.fresh (Yd _))
end
noncomputable def CA (n:Nat) (Pv:Nat->List V->Hp->Prop) (i m:Nat) (acc:List V) (H:Hp):Prop:=m=n-i/\i<=n/\acc.length<=i/\Pv i acc H
theorem CA.take {n:Nat}{Pv:Nat->List V->Hp->Prop}{i:Nat}{acc:List V}{v:V}{H:Hp} (hi:i<n) (hl:acc.length<=i) (h:Pv (i+1) (acc++[v]) H):∃m',m'<n-i/\CA n Pv (i+1) m' (acc++[v]) H:=⟨n-(i+1),by omega,rfl,hi,by simp;omega,h⟩
theorem Zif {J:It}{n:Nat}{H1:Hp}{g:TG}{tt:TT}{te:TE}{σ0:St}{Q:VK} (Pv:Nat->List V->Hp->Prop) (hn:n<sizeLine) (h0:Pv 0 [] H1) (hgo:∀i acc H,Pv i acc H->i<n->J.go i H) (hstop:∀acc H,Pv n acc H->J.stop n H)
  (hb:∀i x acc H H',i<n->acc.length<=i->Pv i acc H->J.yld i H x H'->g x σ0 H' fun σ2 H2=>tt σ2 H2 λb H3=>if b=true then te σ2 H3 λv H4=>∃m',m'<n-i/\CA n Pv (i+1) m' (acc++[v]) H4 else ∃m',m'<n-i/\CA n Pv (i+1) m' acc H3)
  (hk:∀l acc H',Pv n acc H'->acc.length<=n->H' l=none->Q (.ref l) (upd H' l (.lst acc))):Zga J g tt te σ0 Q H1:=by
 refine⟨CA n Pv,⟨n,rfl,Yn _,Yd _,h0⟩,?_⟩
 rintro i m acc H ⟨rfl,hi,hl,p⟩
 by_cases h:i<n
 ·exact .inr ⟨hgo i acc H p h,by omega,λx H' y=>hb i x acc H H' h hl p y⟩
 ·have e:i=n:=by omega
  subst e
  exact .inl ⟨hstop acc H p,by omega,λq hq=>hk q acc H p hl hq⟩
noncomputable def strip (p:Addr) (H:Hp):Hp:=λb=>if b=p then none else H b
theorem Zaw {p b:Addr}{H:Hp} (h:b≠p):strip p H b=H b:=by unfold strip;rw[Yb h]
theorem Zdx {p:Addr}{H:Hp}:strip p H p=none:=by unfold strip;rw[Yc rfl]
section
variable {X:Cx}
noncomputable def rInsert:V->List V->Hp->VK->Prop:=λx vs H Q=>∃l xs i y,x=.ref l/\vs=[.int i,y]/\H l=some (.lst xs)/\0<=i/\i<2 ^ 62/\xs.length<sizeLine/\Q .non (upd H l (.lst (xs.take i.toNat++y::xs.drop i.toNat)))
theorem Vals.Zpd:∀{xs:List V}{us:List Value} (k:Nat),Vals xs us->Vals (xs.take k) (us.take k)
 |_,_,0,_=>by simp;exact .nil
 |_,_,_+1,.nil=>.nil
 |_,_,k+1,.cons r h=>.cons r (Vals.Zpd k h)
theorem Vals.dropN:∀{xs:List V}{us:List Value} (k:Nat),Vals xs us->Vals (xs.drop k) (us.drop k)
 |_,_,0,h=>by simpa using h
 |_,_,_+1,.nil=>.nil
 |_,_,k+1,.cons _ h=>Vals.dropN k h
theorem ZjF:MtM X "list.insert" rInsert:=by
 intro pins s σ H x vs v us Q I rx rv h
 obtain⟨l,xs,i,y,rfl,rfl,hH,h1,h2,hz,q⟩:=h
 cases rx
 obtain⟨u,u2,rfl,ru,ru2⟩:=rv.two
 obtain⟨t,rfl⟩:=ru
 obtain⟨z,its,n,r,hl,e⟩:=I.Zja hH
 have hf:¬ (!Builtin.List.listFitsIndex i)=true:=by
  unfold Builtin.List.listFitsIndex
  have a1:decide (-(2 ^ 63:Int)<=i)=true:=YL (by omega)
  have a2:decide (i<(2 ^ 63:Int))=true:=YL (by omega)
  rw[a1,a2];decide
 refine call_meets F.slot_list_insert ⟨_,e,rfl⟩ F.entry_list_insert (F.args_list_insert_3 _ _ _) (AutoListH.list_insert_list_int_val_1 l its.toArray n i t u2 hf (by rw[Yo];omega)) ⟨e,?_⟩
 refine⟨.non,_,I.lset (its':=its.take i.toNat++u2::its.drop i.toNat) (ys:=xs.take i.toNat++y::xs.drop i.toNat) hH e ?_ ((r.Zpd _).append (.cons ru2 (r.dropN _))) ?_,rfl,q⟩
 ·show((its.toArray.extract 0 (if i<0 then (i+((its.toArray.size:Nat):Int)).toNat else min i.toNat its.toArray.size)).push u2++its.toArray.extract (if i<0 then (i+((its.toArray.size:Nat):Int)).toNat else min i.toNat its.toArray.size))=_
  rw[Yb (by omega)]
  have e1:its.take (min i.toNat its.length)=its.take i.toNat:=by
   by_cases hh:i.toNat<=its.length
   ·rw[Nat.min_eq_left hh]
   ·rw[Nat.min_eq_right (by omega),List.take_of_length_le (by omega),List.take_of_length_le (by omega)]
  have e2:its.drop (min i.toNat its.length)=its.drop i.toNat:=by
   by_cases hh:i.toNat<=its.length
   ·rw[Nat.min_eq_left hh]
   ·rw[Nat.min_eq_right (by omega),List.drop_of_length_le (by omega),List.drop_of_length_le (by omega)]
  apply Array.ext'
  simp[e1,e2]
  exact List.take_of_length_le (by rw[Y7];omega)
 ·rw[YD,Yq,YW,Y7];omega
end
noncomputable def rIntB:List V->Hp->VK->Prop:=λxs H Q=>∃k,xs=[.bl k]/\Q (.int (if k=true then 1 else 0)) H
theorem ZjG {X:Cx}:ZbL X (.type "int") rIntB:=λpins s σ H xs us Q I r h=>Zm9 pins s σ H xs us Q I r (.inr h)
noncomputable def ZL (H:Hp) (p:Addr):Prop:=∃x:Int,H p=some (.lst [.int x])/\0<=x
theorem ZL.ne {H:Hp}{p q:Addr} (P:ZL H p) (h:H q=none):q≠p:=by
 obtain⟨x,e,_⟩:=P
 exact(Zr e h).symm
theorem ZL.same {H H':Hp}{p:Addr} (P:ZL H p) (s:Zg H H'):ZL H' p:=by
 obtain⟨x,e,r⟩:=P
 exact⟨x,s _ _ e,r⟩
theorem ZL.upd {H:Hp}{p q:Addr}{o:HO} (P:ZL H p) (h:H q=none):ZL (L2.upd H q o) p:=P.same ((Zg.refl H).upd h)
theorem ZL.Zeg {H:Hp}{p q:Addr}{o:HO} (P:ZL H p) (h:q≠p):ZL (L2.upd H q o) p:=by
 obtain⟨x,e,r⟩:=P
 exact⟨x,by rw[Zh h.symm];exact e,r⟩
theorem cp50:Zh6 10 50:=by unfold Zh6;decide
end L2
namespace L2
noncomputable def Z5 (f:Nat->Int) (p q:Nat):Prop:=q<p/\f q<=f p/\∀r,q<r->r<p->f p<f r
noncomputable def Z3 (f:Nat->Int) (n p r:Nat):Prop:=p<r/\r<n/\f r<f p/\∀s,p<s->s<r->f p<=f s
noncomputable def ZbW (f:Nat->Int) (p:Nat):Prop:=∀q,q<p->f p<f q
noncomputable def Zbl (f:Nat->Int) (n p:Nat):Prop:=∀r,p<r->r<n->f p<=f r
noncomputable def ZI (f:Nat->Int) (n p:Nat) (e:Int):Prop :=
 (ZbW f p/\Zbl f n p/\e=-1)\/(∃q,Z5 f p q/\Zbl f n p/\e=q)\/(∃r,ZbW f p/\Z3 f n p r/\e=r) \/
 ∃q r,Z5 f p q/\Z3 f n p r/\e=if f q<=f r then (r:Int)else q
theorem Zk3 {P:Nat->Prop} [DecidablePred P] (i:Nat):∀d r,r+d=i->P r->∃t,r<=t/\t<=i/\P t/\∀s,t<s->s<=i->¬ P s:=by
 intro d
 induction d with
 |zero=>intro r e h;exact⟨r,Yd _,by omega,h,λs h1 h2=>by omega⟩
 |succ d ih =>
  intro r e h
  by_cases hx:∃t,r<t/\t<=i/\P t
  ·obtain⟨t,h1,h2,h3⟩:=hx
   -- step to r+1 by cases
   by_cases h4:P (r+1)
   ·obtain⟨u,u1,u2,u3,u4⟩:=ih (r+1) (by omega) h4
    exact⟨u,by omega,u2,u3,u4⟩
   ·-- go on from the next one
    have gen:∀k t,t+k=i->r<t->P t->∃u,r<=u/\u<=i/\P u/\∀s,u<s->s<=i->¬ P s:=by
     intro k
     induction k with
     |zero=>intro t e h1 h3;exact⟨t,by omega,by omega,h3,λs h1 h2=>by omega⟩
     |succ k ihk =>
      intro t e h1 h3
      by_cases hy:∃s,t<s/\s<=i/\P s
      ·-- the last one of the rest
       have key:∀m,m<=i->(∃s,t<s/\s<=m/\P s)->∃u,t<u/\u<=m/\P u/\∀s,u<s->s<=m->¬ P s:=by
        intro m
        induction m with
        |zero=>rintro _ ⟨s,h5,h6,_⟩;omega
        |succ m ihm =>
         rintro hm ⟨s,h5,h6,h7⟩
         by_cases hp:P (m+1)
         ·exact⟨m+1,by omega,Yd _,hp,λs h1 h2=>by omega⟩
         ·have hs:s<=m:=by
           rcases Nat.lt_or_ge m s with z|z
           ·have:s=m+1:=by omega
            rw[this]at h7;exact absurd h7 hp
           ·exact z
          obtain⟨u,u1,u2,u3,u4⟩:=ihm (by omega) ⟨s,h5,hs,h7⟩
          refine⟨u,u1,by omega,u3,λs' h1 h2=>?_⟩
          by_cases e:s'=m+1
          ·rw[e];exact hp
          ·exact u4 s' h1 (by omega)
       obtain⟨u,u1,u2,u3,u4⟩:=key i (Yd _) hy
       exact⟨u,by omega,u2,u3,u4⟩
      ·exact⟨t,by omega,by omega,h3,λs h1 h2 h5=>hy ⟨s,h1,h2,h5⟩⟩
    exact gen (i-t) t (by omega) h1 h3
  ·exact⟨r,Yd _,by omega,h,λs h1 h2 h3=>hx ⟨s,h1,h2,h3⟩⟩
theorem Zmc {P:Nat->Prop} [DecidablePred P] {n r:Nat} (hr:r<n) (h:P r):∃t,r<=t/\t<n/\P t/\∀s,t<s->s<n->¬ P s:=by
 obtain⟨t,h1,h2,h3,h4⟩:=Zk3 (P:=P) (n-1) (n-1-r) r (by omega) h
 exact⟨t,h1,by omega,h3,λs a b=>h4 s a (by omega)⟩
noncomputable def Zpe (f:Nat->Int) (i:Nat) (sp:List Nat):Prop:=sp.Pairwise (· < ·)/\∀q,q∈sp↔q<i/\∀r,q<r->r<i->f q<=f r
theorem ZmT (f:Nat->Int) (p:Nat):ZbW f p\/∃q,Z5 f p q:=by
 by_cases h:∃q,q<p/\f q<=f p
 ·obtain⟨q,h1,h2⟩:=h
  obtain⟨t,_,t2,t3,t4⟩:=Zmc (P:=λq=>f q<=f p) h1 h2
  exact .inr ⟨t,t2,t3,λr a b=>by have:=t4 r a b;omega⟩
 ·exact .inl λq hq=>by
   have:¬ (f q<=f p):=λz=>h ⟨q,hq,z⟩
   omega
theorem Znq {f:Nat->Int}{i p q:Nat} (hp:p<i) (ho:∀r,p<r->r<i->f p<=f r) (h:Z5 f p q):(∀r,q<r->r<i->f q<=f r)/\∀s,q<s->s<p->¬ ∀r,s<r->r<i->f s<=f r:=by
 obtain⟨h1,h2,h3⟩:=h
 refine⟨λr a b=>?_,λs a b z=>?_⟩
 ·rcases Nat.lt_trichotomy r p with c|c|c
  ·have:=h3 r a c;omega
  ·rw[c];exact h2
  ·have:=ho r c b;omega
 ·have:=z p b hp
  have:=h3 s a b
  omega
theorem Zmd {f:Nat->Int}{i:Nat}{A B:List Nat} (hs:Zpe f i (A++B)) (hA:∀q∈A,f q<=f i) (hB:∀q∈B,f i<f q) :
  Zpe f (i+1) (A++[i])/\ZI f (i+1) i (match A.getLast? with|some q=>(q:Int)|none=>-1)/\∀p e,p<i->ZI f i p e->ZI f (i+1) p (if B.head?=some p then (i:Int)else e):=by
 obtain⟨hso,hm⟩:=hs
 have hAB:=List.pairwise_append.mp hso
 have noNx:Zbl f (i+1) i:=λr a b=>by omega
 refine⟨⟨?_,λq=>?_⟩,?_,λp e hp he=>?_⟩
 ·refine List.pairwise_append.mpr ⟨hAB.1,List.pairwise_singleton _ _,λa ha b hb=>?_⟩
  have:b=i:=by simpa using hb
  rw[this]
  exact((hm a).mp (YN _ ha)).1
 ·rw[YE,List.mem_singleton]
  constructor
  ·rintro(h|h)
   ·obtain⟨h1,h2⟩:=(hm q).mp (YN _ h)
    refine⟨by omega,λr a b=>?_⟩
    by_cases e:r=i
    ·rw[e];exact hA q h
    ·exact h2 r a (by omega)
   ·subst h;exact⟨by omega,λr a b=>by omega⟩
  ·rintro⟨h1,h2⟩
   by_cases e:q=i
   ·exact .inr e
   ·have hq:q∈A++B:=(hm q).mpr ⟨by omega,λr a b=>h2 r a (by omega)⟩
    rcases YE.mp hq with h|h
    ·exact .inl h
    ·have:=hB q h
     have:=h2 i (by omega) (by omega)
     omega
 ·-- the elder of i
  rcases ZmT f i with h|⟨q,h⟩
  ·have hA0:A=[]:=by
    cases A with
    |nil=>rfl
    |cons a r =>
     have h1:=((hm a).mp (by simp)).1
     have:=hA a (by simp)
     have:=h a h1
     omega
   rw[hA0]
   exact .inl ⟨h,noNx,rfl⟩
  ·have ho:∀r,q<r->r<i->f q<=f r:=λr a b=>by have:=h.2.2 r a b;have:=h.2.1;omega
   have hqA:q∈A:=by
    rcases YE.mp ((hm q).mpr ⟨h.1,ho⟩)with z|z
    ·exact z
    ·have:=hB q z;have:=h.2.1;omega
   have hlast:A.getLast?=some q:=by
    have hne:A≠[]:=λz=>by rw[z]at hqA;cases hqA
    rw[List.getLast?_eq_some_getLast hne]
    congr 1
    have hl:A.getLast hne∈A:=List.getLast_mem hne
    -- q<=last,and last is not past q
    by_cases e:A.getLast hne=q
    ·exact e
    ·exfalso
     have hlt:q<A.getLast hne:=by
      have hd:=List.dropLast_concat_getLast hne
      have hq2:q∈A.dropLast:=by
       rw[<-hd]at hqA
       rcases YE.mp hqA with z|z
       ·exact z
       ·exact absurd (by simpa using z) (Ne.symm e)
      have hp2:=hAB.1
      rw[<-hd]at hp2
      exact(List.pairwise_append.mp hp2).2.2 q hq2 _ (by simp)
     have h1:=((hm (A.getLast hne)).mp (YN _ hl)).1
     have:=h.2.2 _ hlt h1
     have:=hA _ hl
     omega
   rw[hlast]
   exact .inr (.inl ⟨q,h,noNx,rfl⟩)
 ·-- the elder of an earlier place
  have nxt:∀r,Z3 f i p r->Z3 f (i+1) p r:=λr ⟨a,b,c,d⟩=>⟨a,by omega,c,d⟩
  by_cases hop:Zbl f i p
  ·have hmem:p∈A++B:=(hm p).mpr ⟨hp,hop⟩
   by_cases hlt:f i<f p
   ·have hnx:Z3 f (i+1) p i:=⟨hp,by omega,hlt,λs a b=>hop s a b⟩
    have hpB:p∈B:=by
     rcases YE.mp hmem with z|z
     ·have:=hA p z;omega
     ·exact z
    obtain⟨b0,Br,rfl⟩:∃b0 Br,B=b0::Br:=by
     cases B with
     |nil=>cases hpB
     |cons b0 Br=>exact⟨b0,Br,rfl⟩
    have hhead:(b0::Br).head?=some b0:=rfl
    rw[hhead]
    rcases ZmT f p with hn|⟨q,hq⟩
    ·-- nothing ahead: p is the first of all
     have e0:b0=p:=by
      by_cases z:b0=p
      ·exact z
      ·exfalso
       have hpr:p∈Br:=by
        rcases Yl.mp hpB with y|y
        ·exact absurd y.symm z
        ·exact y
       have hlt2:b0<p:=(Y8.mp hAB.2.1).1 p hpr
       have:=((hm b0).mp (by simp)).2 p hlt2 hp
       have:=hn b0 hlt2
       omega
     rw[Yc (by rw[e0])]
     exact .inr (.inr (.inl ⟨i,hn,hnx,rfl⟩))
    ·obtain⟨hq1,hq2⟩:=Znq hp hop hq
     have hqm:q∈A++b0::Br:=(hm q).mpr ⟨Nat.lt_trans hq.1 hp,hq1⟩
     by_cases hqi:f q<=f i
     ·-- q is kept: p is the first of B
      have e0:b0=p:=by
       by_cases z:b0=p
       ·exact z
       ·exfalso
        have hpr:p∈Br:=by
         rcases Yl.mp hpB with y|y
         ·exact absurd y.symm z
         ·exact y
        have hlt2:b0<p:=(Y8.mp hAB.2.1).1 p hpr
        have hb0:=(hm b0).mp (by simp)
        have hqA:q∈A:=by
         rcases YE.mp hqm with y|y
         ·exact y
         ·have:=hB q y;omega
        have hqb:q<b0:=hAB.2.2 q hqA b0 (by simp)
        exact hq2 b0 hqb hlt2 hb0.2
      rw[Yc (by rw[e0])]
      refine .inr (.inr (.inr ⟨q,i,hq,hnx,?_⟩))
      rw[Yc hqi]
     ·-- q goes,too: the elder stays
      have hqB:q∈b0::Br:=by
       rcases YE.mp hqm with y|y
       ·exact absurd (hA q y) hqi
       ·exact y
      have hne:b0≠p:=by
       intro z
       subst z
       rcases Yl.mp hqB with y|y
       ·have:=hq.1;omega
       ·have:=(Y8.mp hAB.2.1).1 q y
        have:=hq.1;omega
      rw[Yb (by intro z;exact hne (Yy z))]
      have ee:e=q:=by
       rcases he with⟨h1,_,_⟩|⟨q',h1,_,h3⟩|⟨r,h1,_,_⟩|⟨q',r,_,h2,_⟩
       ·have:=h1 q hq.1;have:=hq.2.1;omega
       ·have:q'=q:=by
         rcases Nat.lt_trichotomy q' q with y|y|y
         ·have:=h1.2.2 q y hq.1;have:=hq.2.1;omega
         ·exact y
         ·have:=hq.2.2 q' y h1.1;have:=h1.2.1;omega
        rw[h3,this]
       ·have:=h1 q hq.1;have:=hq.2.1;omega
       ·have:=hop r h2.1 h2.2.1;have:=h2.2.2.1;omega
      refine .inr (.inr (.inr ⟨q,i,hq,hnx,?_⟩))
      rw[Yb hqi,ee]
   ·-- still open: not of B
    have hnn:Zbl f (i+1) p:=λr a b=>by
     by_cases z:r=i
     ·rw[z];omega
     ·exact hop r a (by omega)
    have hne:B.head?≠some p:=λz=>by
     have:p∈B:=List.mem_of_head? z
     have:=hB p this
     omega
    rw[Yb hne]
    rcases he with⟨h1,_,h3⟩|⟨q,h1,_,h3⟩|⟨r,_,h2,_⟩|⟨q,r,_,h2,_⟩
    ·exact .inl ⟨h1,hnn,h3⟩
    ·exact .inr (.inl ⟨q,h1,hnn,h3⟩)
    ·have:=hop r h2.1 h2.2.1;have:=h2.2.2.1;omega
    ·have:=hop r h2.1 h2.2.1;have:=h2.2.2.1;omega
  ·-- shut already
   have hne:B.head?≠some p:=λz=>hop ((hm p).mp (Yv _ (List.mem_of_head? z))).2
   rw[Yb hne]
   rcases he with⟨_,h2,_⟩|⟨q,_,h2,_⟩|⟨r,h1,h2,h3⟩|⟨q,r,h1,h2,h3⟩
   ·exact absurd h2 hop
   ·exact absurd h2 hop
   ·exact .inr (.inr (.inl ⟨r,h1,nxt r h2,h3⟩))
   ·exact .inr (.inr (.inr ⟨q,r,h1,nxt r h2,h3⟩))
end L2
namespace L2
open PySem PySem.Spec PyProof.Rows PySem.W
theorem Zig {α β:Type}{f g:α->Option β}:∀{l:List α},(∀x∈l,f x=g x)->l.filterMap f=l.filterMap g
 |[],_=>rfl
 |x::r,h=>by rw[List.filterMap_cons,List.filterMap_cons,h x (YO ..),Zig λy hy=>h y (YK _ hy)]
theorem Znr (its:List Value) (k:Nat) (hk:k<=its.length) (start:Nat):(its.zipIdx start).filterMap (λxk=>if (decide (((start+k:Nat):Int)<=(xk.2:Int))&&decide ((xk.2:Int)<((start+its.length:Nat):Int))&&(((xk.2:Int)-((start+k:Nat):Int)) % 1==0))=true then none else some xk.1)=its.take k:=by
 induction its generalizing k start with
 |nil=>simp
 |cons x r ih =>
  rw[List.zipIdx_cons,List.filterMap_cons]
  cases k with
  |zero =>
   have h1:(decide (((start+0:Nat):Int)<=(start:Int))&&decide ((start:Int)<((start+(x::r).length:Nat):Int))&&(((start:Int)-((start+0:Nat):Int)) % 1==0))=true:=by
    simp;omega
   simp only[h1,if_true]
   have:=ih 0 (by omega) (start+1)
   rw[List.take_zero]at this⊢
   rw[<-this]
   refine Zig λxk hxk=>?_
   have hm:=List.mem_zipIdx hxk
   have e1:(decide (((start+0:Nat):Int)<=(xk.2:Int)))=(decide (((start+1+0:Nat):Int)<=(xk.2:Int))):=by
    rw[decide_eq_decide];omega
   have e2:((start+(x::r).length:Nat):Int)=((start+1+r.length:Nat):Int):=by simp;omega
   have e3:(((xk.2:Int)-((start+0:Nat):Int)) % 1==0)=(((xk.2:Int)-((start+1+0:Nat):Int)) % 1==0):=by simp[Int.emod_one]
   rw[e1,e2,e3]
  |succ k =>
   have h1:(decide (((start+(k+1):Nat):Int)<=(start:Int))&&decide ((start:Int)<((start+(x::r).length:Nat):Int))&&(((start:Int)-((start+(k+1):Nat):Int)) % 1==0))=false:=by
    have:decide (((start+(k+1):Nat):Int)<=(start:Int))=false:=YJ (by omega)
    rw[this];rfl
   simp only[h1,Bool.false_eq_true,if_false]
   rw[List.take_succ_cons]
   congr 1
   have:=ih k (by simpa using hk) (start+1)
   rw[<-this]
   refine Zig λxk hxk=>?_
   have e1:((start+(k+1):Nat):Int)=((start+1+k:Nat):Int):=by omega
   have e2:((start+(x::r).length:Nat):Int)=((start+1+r.length:Nat):Int):=by simp;omega
   rw[e1,e2]
section
variable {X:Cx}{e st:Expr}{te ts:TE}{pos pos1 p2:Pos}
noncomputable def tDelT (te ts:TE):TS:=λD σ H=>te σ H λx H1=>ts σ H1 λz H2=>∃(l:Addr) (xs:List V) (k:Nat),x=.ref l/\z=.int k/\H2 l=some (.lst xs)/\k<=xs.length/\D.nx σ (upd H2 l (.lst (xs.take k)))
theorem Zme (he:PE X e te) (hs:PE X st ts):PS X (.Delete [.Subscript e (.Slice (some st) none none p2) pos1] pos) (tDelT te ts):=by
 intro pins s σ H D I h
 refine wpAny_Delete (wpAny_deleteEach_cons ?_)
 show wpAny _ _ (eval e X.env >>= λov=>holding [ov] (eval (.Slice (some st) none none p2) X.env) >>= λiv=>(do standAt pos1;holding [ov,iv] (delItem ov iv);release [ov,iv] [])) _ _ _
 refine Ya (thn (he pins s σ H _ I h) λv s1 ⟨x,H1,I1,r1,q1⟩=>?_)
 refine Ya (wpAny_holding ?_)
 refine wpAny_Slice ?_
 rw[evalPart_some]
 refine thn (hs pins s1 σ H1 _ I1 q1) λvs s2 ⟨z,H2,I2,r2,l,xs,k,e1,e2,hx,hk,q⟩=>?_
 subst e1 e2
 obtain⟨tk,rfl⟩:=r2
 cases r1
 rw[evalPart_none]
 refine Ye ?_
 refine Ye ?_
 have I4:Inv X pins σ H2 {s2 with heap:=s2.heap.push {cls:=.type "slice",data:=.fields #[.int k tk,.none,.none]}}:=I2.kept (t':=s2.toks) λb ob q=>Yg _ q
 have hsl:({s2 with heap:=s2.heap.push {cls:=.type "slice",data:=.fields #[.int k tk,.none,.none]}}:Shared).heap.get? s2.heap.objs.size=some {cls:=.type "slice",data:=.fields #[.int k tk,.none,.none]}:=Ym _ rfl
 obtain⟨z,its,n,r,hlen,hob⟩:=I4.Zja hx
 generalize ({s2 with heap:=s2.heap.push {cls:=.type "slice",data:=.fields #[.int k tk,.none,.none]}}:Shared)=s4 at I4 hsl hob⊢
 have hT:s4.TypeIs (.ref l) "list":=⟨_,hob,rfl⟩
 have hTs:s4.TypeIs (.ref s2.heap.objs.size) "slice":=⟨_,hsl,rfl⟩
 refine Ya (wpAny_standAt (Ya (wpAny_holding ?_)))
 refine wpAny_delItem_slot hT (by decide) F.slot_list_delitem (wpAny_call_entry F.slot_list_delitem hT F.entry_list_delitem ?_ (F.args_list_delitem_2 _ _))
 show wpAny _ _ (Builtin.List.listSubscript? (.ref s2.heap.objs.size) >>= _) _ _ s4
 refine Ya ?_;unfold Builtin.List.listSubscript?;refine Ya (wpAny_specialOf hTs slice_no_index ?_)
 simp only[Option.isNone_none,if_true];refine Ye ?_
 show wpAny _ _ (typeOf (.ref s2.heap.objs.size) >>= _) _ _ s4
 refine Ya (wpAny_typeOf hTs ?_);rw[Yb (by decide),listSliceParts_eq]
 refine Ya (Ya (wpAny_field hsl rfl (x:=.none) rfl (Ya (wpAny_listPart (k:=none) .none ?_))));rw[Yb (show ¬ ((rawPart none==rawInt 0)=true)from Yw)]
 refine Ya (wpAny_field hsl rfl (x:=.int k tk) rfl (Ya (wpAny_listPart (.int (k:Int) tk) ?_)))
 refine Ya (wpAny_field hsl rfl (x:=.none) rfl (Ya (wpAny_listPart (k:=none) .none (Ye ?_))))
 refine Ya (m:=Builtin.List.listItems (.ref l)) ?_;unfold Builtin.List.listItems
 refine Ya (wpAny_seqItems hob rfl (Ye ?_));refine Ya (wpAny_of_eq (sliceIndices_raw (some (k:Int)) none none its.toArray.size (by simp)) (Ya (wpAny_rule ?_)))
 have hb:sliceBounds (some (k:Int)) none none its.toArray.size=((k:Int),((its.length:Nat):Int),1):=by
  unfold sliceBounds
  simp
  omega
 rw[hb]
 have hf:∀f:Array Value->Array Value,(∀ys:Array Value,f ys=(ys.toList.zipIdx.filterMap λxk=>if (decide ((k:Int)<=(xk.2:Int))&&decide ((xk.2:Int)<((its.length:Nat):Int))&&(((xk.2:Int)-(k:Int)) % 1==0))=true then none else some xk.1).toArray)->f its.toArray=(its.take k).toArray:=λf h=>by
  rw[h]
  congr 1
  have:=Znr its k (by omega) 0
  simpa using this
 refine Ya (m:=updateSeq l _) ?_
 refine wpAny_updateSeq (n:=n) hob rfl ?_ (by rw[Yo];omega) ?_
 ·refine Ya (wpAny_letGo (Ye ⟨_,rfl,?_⟩))
  refine wpAny_release (wpAny_deleteEach_nil ⟨σ,_,I4.lset hx hob (hf _ λys=>rfl) (r.Zpd k) ?_,q⟩)
  rw[YW];omega
 ·rw[Yo]
  refine Yf (List.length_filterMap_le _ _) ?_
  rw[List.length_zipIdx]
  show its.length<=sizeLine+1
  omega
end
theorem Z5.unique {f:Nat->Int}{p q q':Nat} (h:Z5 f p q) (k:Z5 f p q'):q=q':=by
 rcases Nat.lt_trichotomy q q' with z|z|z
 ·have:=h.2.2 q' z k.1;have:=k.2.1;omega
 ·exact z
 ·have:=k.2.2 q z h.1;have:=h.2.1;omega
theorem Z3.unique {f:Nat->Int}{n p r r':Nat} (h:Z3 f n p r) (k:Z3 f n p r'):r=r':=by
 rcases Nat.lt_trichotomy r r' with z|z|z
 ·have:=k.2.2.2 r h.1 z;have:=h.2.2.1;omega
 ·exact z
 ·have:=h.2.2.2 r' k.1 z;have:=k.2.2.1;omega
theorem Z5.no {f:Nat->Int}{p q:Nat} (h:Z5 f p q) (k:ZbW f p):False:=by have:=k q h.1;have:=h.2.1;omega
theorem Z3.no {f:Nat->Int}{n p r:Nat} (h:Z3 f n p r) (k:Zbl f n p):False:=by have:=k r h.1 h.2.1;have:=h.2.2.1;omega
theorem ZI.unique {f:Nat->Int}{n p:Nat}{e e':Int} (h:ZI f n p e) (k:ZI f n p e'):e=e':=by
 rcases h with⟨h1,h2,h3⟩|⟨q,h1,h2,h3⟩|⟨r,h1,h2,h3⟩|⟨q,r,h1,h2,h3⟩ <;>
 rcases k with⟨k1,k2,k3⟩|⟨q',k1,k2,k3⟩|⟨r',k1,k2,k3⟩|⟨q',r',k1,k2,k3⟩
 ·rw[h3,k3]
 ·exact(k1.no h1).elim
 ·exact(k2.no h2).elim
 ·exact(k1.no h1).elim
 ·exact(h1.no k1).elim
 ·rw[h3,k3,h1.unique k1]
 ·exact(h1.no k1).elim
 ·exact(k2.no h2).elim
 ·exact(h2.no k2).elim
 ·exact(k1.no h1).elim
 ·rw[h3,k3,h2.unique k2]
 ·exact(k1.no h1).elim
 ·exact(h1.no k1).elim
 ·exact(h2.no k2).elim
 ·exact(h1.no k1).elim
 ·rw[h3,k3,h1.unique k1,h2.unique k2]
noncomputable def Zl (ns:List Int) (es:List Int):Prop:=es.length=ns.length/\∀p,p<ns.length->ZI (nth ns) ns.length p (es.getD p 0)
theorem Zl.unique {ns es es':List Int} (h:Zl ns es) (k:Zl ns es'):es=es':=by
 refine List.ext_getElem (by rw[h.1,k.1]) λj h1 h2=>?_
 have hj:j<ns.length:=by rw[<-h.1];exact h1
 have:=(h.2 j hj).unique (k.2 j hj)
 simpa[Yr,h1,h2]using this
theorem Zhe {f:Nat->Int}{n p:Nat} (hp:p<n):ZI f n p
  (match ((List.range p).filter λq=>decide (f q<=f p)).getLast?,((List.range (n-(p+1))).filter λj=>decide (f (p+1+j)<f p)).head? with
   |none,none=>-1
   |none,some j=>((p+1+j:Nat):Int)
   |some q,none=>q
   |some q,some j=>if f q<=f (p+1+j)then ((p+1+j:Nat):Int)else q):=by
 have hA:(((List.range p).filter λq=>decide (f q<=f p)).getLast?=none/\ZbW f p)\/∃q,((List.range p).filter λq=>decide (f q<=f p)).getLast?=some q/\Z5 f p q:=by
  induction p with
  |zero=>exact .inl ⟨rfl,λq hq=>by omega⟩
  |succ p _ =>
   generalize p+1=P
   have key:∀m,m<=P->(((List.range m).filter λq=>decide (f q<=f P)).getLast?=none/\∀q,q<m->f P<f q)\/∃q,((List.range m).filter λq=>decide (f q<=f P)).getLast?=some q/\q<m/\f q<=f P/\∀r,q<r->r<m->f P<f r:=by
    intro m
    induction m with
    |zero=>intro _;exact .inl ⟨rfl,λq hq=>by omega⟩
    |succ m ih =>
     intro hm
     rw[YQ,List.filter_append]
     by_cases hle:f m<=f P
     ·refine .inr ⟨m,?_,by omega,hle,λr r1 r2=>by omega⟩
      simp[hle]
     ·have e:List.filter (λq=>decide (f q<=f P)) [m]=[]:=by simp[hle]
      rw[e,List.append_nil]
      rcases ih (by omega)with⟨i1,i2⟩|⟨q,i1,i2,i3,i4⟩
      ·refine .inl ⟨i1,λq hq=>?_⟩
       by_cases z:q=m
       ·rw[z];omega
       ·exact i2 q (by omega)
      ·refine .inr ⟨q,i1,by omega,i3,λr r1 r2=>?_⟩
       by_cases z:r=m
       ·rw[z];omega
       ·exact i4 r r1 (by omega)
   rcases key P (Yd _)with⟨i1,i2⟩|⟨q,i1,i2,i3,i4⟩
   ·exact .inl ⟨i1,i2⟩
   ·exact .inr ⟨q,i1,i2,i3,i4⟩
 have hB:(((List.range (n-(p+1))).filter λj=>decide (f (p+1+j)<f p)).head?=none/\Zbl f n p)\/∃j,((List.range (n-(p+1))).filter λj=>decide (f (p+1+j)<f p)).head?=some j/\Z3 f n p (p+1+j):=by
  have key:∀m,(((List.range m).filter λj=>decide (f (p+1+j)<f p)).head?=none/\∀j,j<m->f p<=f (p+1+j))\/∃j,((List.range m).filter λj=>decide (f (p+1+j)<f p)).head?=some j/\j<m/\f (p+1+j)<f p/\∀i,i<j->f p<=f (p+1+i):=by
   intro m
   induction m with
   |zero=>exact .inl ⟨rfl,λq hq=>by omega⟩
   |succ m ih =>
    rw[YQ,List.filter_append]
    rcases ih with⟨i1,i2⟩|⟨j,i1,i2,i3,i4⟩
    ·have e0:List.filter (λj=>decide (f (p+1+j)<f p)) (List.range m)=[]:=List.head?_eq_none_iff.mp i1
     rw[e0,List.nil_append]
     by_cases hlt:f (p+1+m)<f p
     ·refine .inr ⟨m,by simp[hlt],by omega,hlt,λi hi=>i2 i hi⟩
     ·refine .inl ⟨by simp[hlt],λj hj=>?_⟩
      by_cases z:j=m
      ·rw[z];omega
      ·exact i2 j (by omega)
    ·refine .inr ⟨j,?_,by omega,i3,i4⟩
     rw[List.head?_append,i1];rfl
  rcases key (n-(p+1))with⟨i1,i2⟩|⟨j,i1,i2,i3,i4⟩
  ·refine .inl ⟨i1,λr r1 r2=>?_⟩
   have:=i2 (r-(p+1)) (by omega)
   have e:p+1+(r-(p+1))=r:=by omega
   rw[e]at this;exact this
  ·refine .inr ⟨j,i1,by omega,by omega,i3,λs s1 s2=>?_⟩
   have:=i4 (s-(p+1)) (by omega)
   have e:p+1+(s-(p+1))=s:=by omega
   rw[e]at this;exact this
 rcases hA with⟨a1,a2⟩|⟨q,a1,a2⟩<;>rcases hB with⟨b1,b2⟩|⟨j,b1,b2⟩<;>rw[a1,b1]
 ·exact .inl ⟨a2,b2,rfl⟩
 ·exact .inr (.inr (.inl ⟨_,a2,b2,rfl⟩))
 ·exact .inr (.inl ⟨_,a2,b2,rfl⟩)
 ·exact .inr (.inr (.inr ⟨_,_,a2,b2,rfl⟩))
theorem Zrp {c:TT}{tb:TS}{D:Ends}{σ:St}{H:Hp} (Pv:Nat->St->Hp->Prop) (m0:Nat) (h0:Pv m0 σ H)
  (hs:∀m σ H,Pv m σ H->c σ H λb H1=>if b=true then ∃Nx:St->Hp->Prop,(∀σ' H',Nx σ' H'->∃m',m'<m/\Pv m' σ' H')/\tb {D with nx:=Nx,ct:=Nx,bk:=D.nx} σ H1 else D.nx σ H1):Zl7 c tb D σ H:=⟨Pv,⟨m0,h0⟩,hs⟩
end L2
namespace L2
noncomputable def Over (f:Nat->Int) (o p:Nat):Prop:=(o<p/\∀r,o<r->r<=p->f o<=f r)\/(p<o/\∀r,p<=r->r<o->f o<f r)
theorem Over.irrefl {f:Nat->Int}{p:Nat}:¬ Over f p p:=by rintro(⟨h,_⟩|⟨h,_⟩)<;>omega
theorem Over.ne {f:Nat->Int}{o p:Nat} (h:Over f o p):o≠p:=λz=>Over.irrefl (z▸h)
theorem Over.trans {f:Nat->Int}{o e p:Nat} (h:Over f o e) (k:Over f e p):Over f o p:=by
 rcases h with⟨h1,h2⟩|⟨h1,h2⟩<;>rcases k with⟨k1,k2⟩|⟨k1,k2⟩
 ·refine .inl ⟨by omega,λr r1 r2=>?_⟩
  by_cases z:r<=e
  ·exact h2 r r1 z
  ·have:=k2 r (by omega) r2;have:=h2 e h1 (Yd _);omega
 ·have he:=h2 e h1 (Yd _)
  rcases Nat.lt_trichotomy o p with z|z|z
  ·exact .inl ⟨z,λr r1 r2=>h2 r r1 (by omega)⟩
  ·have:=k2 p (Yd _) k1;subst z;omega
  ·exact .inr ⟨z,λr r1 r2=>by have:=k2 r r1 (by omega);omega⟩
 ·have he:=h2 e (Yd _) h1
  rcases Nat.lt_trichotomy o p with z|z|z
  ·exact .inl ⟨z,λr r1 r2=>by have:=k2 r (by omega) r2;omega⟩
  ·have:=k2 p k1 (Yd _);subst z;omega
  ·exact .inr ⟨z,λr r1 r2=>h2 r (by omega) r2⟩
 ·refine .inr ⟨by omega,λr r1 r2=>?_⟩
  by_cases z:r<e
  ·have:=k2 r r1 z;have:=h2 e (Yd _) h1;omega
  ·exact h2 r (by omega) r2
theorem Zcm {f:Nat->Int}{n p:Nat}{e:Int} (hp:p<n) (h:ZI f n p e):e=-1\/∃q:Nat,e=q/\q<n/\Over f q p:=by
 have pv:∀q,Z5 f p q->Over f q p:=λq h=>.inl ⟨h.1,λr r1 r2=>by
  by_cases z:r=p
  ·rw[z];exact h.2.1
  ·have:=h.2.2 r r1 (by omega);have:=h.2.1;omega⟩
 have nx:∀q,Z3 f n p q->Over f q p:=λq h=>.inr ⟨h.1,λr r1 r2=>by
  by_cases z:r=p
  ·rw[z];exact h.2.2.1
  ·have:=h.2.2.2 r (by omega) r2;have:=h.2.2.1;omega⟩
 rcases h with⟨_,_,h⟩|⟨q,h1,_,h⟩|⟨r,_,h1,h⟩|⟨q,r,h1,h2,h⟩
 ·exact .inl h
 ·exact .inr ⟨q,h,by have:=h1.1;omega,pv q h1⟩
 ·exact .inr ⟨r,h,h1.2.1,nx r h1⟩
 ·by_cases z:f q<=f r
  ·rw[Yc z]at h;exact .inr ⟨r,h,h2.2.1,nx r h2⟩
  ·rw[Yb z]at h;exact .inr ⟨q,h,by have:=h1.1;omega,pv q h1⟩
theorem ZjH {f:Nat->Int}{n p o:Nat}{e:Int} (hp:p<n) (ho:o<n) (h:ZI f n p e) (hO:Over f o p):∃q:Nat,e=q/\q<n/\(o=q\/Over f o q):=by
 rcases hO with⟨o1,o2⟩|⟨o1,o2⟩
 ·have op:=o2 p o1 (Yd _)
  have pv:∀q,Z5 f p q->o=q\/(o<q/\Over f o q/\f o<=f q):=λq h=>by
   rcases Nat.lt_trichotomy o q with z|z|z
   ·have:=h.1;exact .inr ⟨z,.inl ⟨z,λr r1 r2=>o2 r r1 (by omega)⟩,o2 q z (by omega)⟩
   ·exact .inl z
   ·have:=h.2.2 o z o1;omega
  rcases h with⟨h1,_,h⟩|⟨q,h1,_,h⟩|⟨r,h1,_,h⟩|⟨q,r,h1,h2,h⟩
  ·have:=h1 o o1;omega
  ·refine⟨q,h,by have:=h1.1;omega,?_⟩
   rcases pv q h1 with z|z
   ·exact .inl z
   ·exact .inr z.2.1
  ·have:=h1 o o1;omega
  ·by_cases z:f q<=f r
   ·rw[Yc z]at h
    refine⟨r,h,h2.2.1,.inr (.inl ⟨by have:=h2.1;omega,λs s1 s2=>?_⟩)⟩
    by_cases sp:s<=p
    ·exact o2 s s1 sp
    ·by_cases sr:s=r
     ·rw[sr]
      rcases pv q h1 with y|y
      ·rw[y];exact z
      ·have:=y.2.2;omega
     ·have:=h2.2.2.2 s (by omega) (by omega);omega
   ·rw[Yb z]at h
    refine⟨q,h,by have:=h1.1;omega,?_⟩
    rcases pv q h1 with z|z
    ·exact .inl z
    ·exact .inr z.2.1
 ·have op:=o2 p (Yd _) o1
  have nx:∀r,Z3 f n p r->o=r\/(r<o/\Over f o r/\f o<f r):=λr h=>by
   rcases Nat.lt_trichotomy o r with z|z|z
   ·have:=h.2.2.2 o o1 z;omega
   ·exact .inl z
   ·have:=h.1;exact .inr ⟨z,.inr ⟨z,λs s1 s2=>o2 s (by omega) s2⟩,o2 r (by omega) z⟩
  rcases h with⟨_,h1,h⟩|⟨q,_,h1,h⟩|⟨r,_,h1,h⟩|⟨q,r,h1,h2,h⟩
  ·have:=h1 o o1 ho;omega
  ·have:=h1 o o1 ho;omega
  ·refine⟨r,h,h1.2.1,?_⟩
   rcases nx r h1 with z|z
   ·exact .inl z
   ·exact .inr z.2.1
  ·by_cases z:f q<=f r
   ·rw[Yc z]at h
    refine⟨r,h,h2.2.1,?_⟩
    rcases nx r h2 with z|z
    ·exact .inl z
    ·exact .inr z.2.1
   ·rw[Yb z]at h
    refine⟨q,h,by have:=h1.1;omega,.inr (.inr ⟨by have:=h1.1;omega,λs s1 s2=>?_⟩)⟩
    by_cases sp:p<=s
    ·exact o2 s sp s2
    ·by_cases sq:s=q
     ·rw[sq]
      rcases nx r h2 with y|y
      ·rw[y];omega
      ·have:=y.2.2;omega
     ·have:=h1.2.2 s (by omega) (by omega);omega
theorem Zih {f:Nat->Int}{n p o q:Nat} (hp:p<n) (ho:o<n) (h:ZI f n p (q:Int)):Over f o p↔o=q\/Over f o q:=by
 refine⟨λk=>?_,λk=>?_⟩
 ·obtain⟨q',e,_,z⟩:=ZjH hp ho h k
  have:q'=q:=by omega
  rw[this]at z;exact z
 ·rcases Zcm hp h with z|⟨q',e,_,z⟩
  ·omega
  ·have:q'=q:=by omega
   rw[this]at z
   rcases k with k|k
   ·rw[k];exact z
   ·exact k.trans z
theorem Zfl {f:Nat->Int}{n p o:Nat} (hp:p<n) (ho:o<n) (h:ZI f n p (-1)):¬ Over f o p:=λk=>by
 obtain⟨q',e,_,z⟩:=ZjH hp ho h k
 omega
theorem Zii {P Q:Nat->Bool}:∀n,(∀o,o<n->P o=Q o)->(List.range n).countP P=(List.range n).countP Q
 |0,_=>rfl
 |n+1,h=>by
  rw[YQ,List.countP_append,List.countP_append,Zii n (λo ho=>h o (by omega))]
  simp[List.countP_cons,h n (by omega)]
theorem Zdy {P Q:Nat->Bool}{e:Nat}:∀n,e<n->(∀o,o<n->(P o=true↔o=e\/Q o=true))->Q e=false->(List.range n).countP P=(List.range n).countP Q+1
 |0,h,_,_=>by omega
 |n+1,h,hi,hq=>by
  rw[YQ,List.countP_append,List.countP_append]
  by_cases z:e=n
  ·have e1:(List.range n).countP P=(List.range n).countP Q:=Zii n λo ho=>by
    have:=hi o (by omega)
    cases hP:P o<;>cases hQ:Q o<;>simp[hP,hQ]at this<;>first|rfl|omega
   have hPn:P n=true:=(hi n (by omega)).mpr (.inl z.symm)
   rw[z]at hq
   rw[e1];simp[List.countP_cons,hPn,hq]
  ·rw[Zdy n (by omega) (λo ho=>hi o (by omega)) hq]
   have:=hi n (by omega)
   have hn:P n=Q n:=by
    cases hP:P n<;>cases hQ:Q n<;>simp[hP,hQ]at this<;>first|rfl|omega
   simp[List.countP_cons,hn];omega
theorem Zpf {P:Nat->Bool}{e n:Nat} (he:e<n) (h:P e=false):(List.range n).countP P<n:=by
 have h1:=Zdy (P:=λo=>decide (o=e)||P o) (Q:=P) n he (λo _=>by simp) h
 have h2:=List.countP_le_length (p:=λo=>decide (o=e)||P o) (l:=List.range n)
 rw[h1,YZ]at h2
 omega
noncomputable def Z9 (T:List Int):Nat->Int->List Nat
 |0,_=>[]
 |k+1,at_=>if 0<=at_/\at_<T.length then at_.toNat::Z9 T k (nth T at_.toNat)else []
open Classical in
noncomputable def dep (f:Nat->Int) (n p:Nat):Nat:=(List.range n).countP λo=>decide (Over f o p)
theorem Zij {f:Nat->Int}{n p:Nat} (hp:p<n):dep f n p<n:=by
 classical
 exact Zpf hp (by simpa using Over.irrefl)
theorem ZgM {f:Nat->Int}{n p q:Nat} (hp:p<n) (h:ZI f n p (q:Int)):dep f n p=dep f n q+1:=by
 classical
 have hq:q<n:=by
  rcases Zcm hp h with z|⟨q',e,z,_⟩<;>omega
 exact Zdy n hq (λo ho=>by simpa using Zih hp ho h) (by simpa using Over.irrefl)
theorem Zrq {f:Nat->Int}{n p:Nat} (hp:p<n) (h:ZI f n p (-1)):dep f n p=0:=by
 classical
 unfold dep
 rw[List.countP_eq_zero]
 intro o ho
 simpa using Zfl hp (by simpa using ho) h
theorem Zik {P Q:Nat->Bool}:∀n,(∀o,o<n->P o=true->Q o=true)->(List.range n).countP P<=(List.range n).countP Q
 |0,_=>Yd _
 |n+1,h=>by
  rw[YQ,List.countP_append,List.countP_append]
  have:=Zik n (λo ho=>h o (by omega))
  have hn:=h n (by omega)
  cases hP:P n<;>cases hQ:Q n<;>simp[List.countP_cons,hP,hQ]at hn⊢<;>omega
theorem Zpg {f:Nat->Int}{n p q:Nat} (hp:p<n) (hq:q<n) (h:Over f q p):dep f n q<dep f n p:=by
 classical
 have h1:=Zdy (P:=λo=>decide (o=q)||decide (Over f o q)) (Q:=λo=>decide (Over f o q)) (e:=q) n hq (λo _=>by simp) (by simpa using Over.irrefl)
 have h2:=Zik (P:=λo=>decide (o=q)||decide (Over f o q)) (Q:=λo=>decide (Over f o p)) n (λo _ ho=>by
  simp at ho⊢
  rcases ho with z|z
  ·rw[z];exact h
  ·exact z.trans h)
 rw[h1]at h2
 exact h2
theorem Zeh {ns T:List Int} (hT:Zl ns T):∀k p,p<ns.length->dep (nth ns) ns.length p<=k->(∀o,o∈Z9 T k (nth T p)↔o<ns.length/\Over (nth ns) o p)/\(Z9 T k (nth T p)).length=dep (nth ns) ns.length p
 |k,p,hp,hk=>by
  have hE:ZI (nth ns) ns.length p (nth T p):=hT.2 p hp
  rcases Zcm hp hE with z|⟨q,e,hq,hO⟩
  ·have e0:Z9 T k (nth T p)=[]:=by
    cases k with
    |zero=>rfl
    |succ k=>rw[Z9,Yb (by omega)]
   rw[e0]
   rw[z]at hE
   exact⟨λo=>⟨λh=>by simp at h,λh=>absurd h.2 (Zfl hp h.1 hE)⟩,by rw[Zrq hp hE];rfl⟩
  ·rw[e]at hE
   have hd:=ZgM hp hE
   obtain⟨k',rfl⟩:∃k',k=k'+1:=⟨k-1,by omega⟩
   have ih:=Zeh hT k' q hq (by omega)
   have eT:((q:Nat):Int).toNat=q:=by omega
   rw[Z9,e,Yc ⟨by omega,by rw[hT.1];omega⟩,eT]
   refine⟨λo=>?_,by simp[ih.2,hd]⟩
   rw[Yl,ih.1 o]
   refine⟨λh=>?_,λh=>?_⟩
   ·rcases h with h|h
    ·rw[h];exact⟨hq,hO⟩
    ·exact⟨h.1,h.2.trans hO⟩
   ·rcases(Zih hp h.1 hE).mp h.2 with z|z
    ·exact .inl z
    ·exact .inr ⟨h.1,z⟩
noncomputable def ZfH (T:List Int):List Int:=(List.range T.length).map λp=>((Z9 T T.length (nth T p)).length:Int)
theorem Zgd (T:List Int):(ZfH T).length=T.length:=by simp[ZfH]
theorem Zk4 {T:List Int}{p:Nat} (h:p<T.length):nth (ZfH T) p=(Z9 T T.length (nth T p)).length:=by
 simp[nth,ZfH,Yr,h]
theorem Zns {ns T:List Int} (hT:Zl ns T):Zl (ZfH T) T:=by
 have eL:T.length=ns.length:=hT.1
 have hd:∀p,p<ns.length->nth (ZfH T) p=(dep (nth ns) ns.length p:Int):=λp hp=>by
  rw[Zk4 (by omega),eL,(Zeh hT ns.length p hp (YI (Zij hp))).2]
 refine⟨(Zgd T).symm,λp hp=>?_⟩
 rw[Zgd,eL]at hp⊢
 have lt:∀q p,q<ns.length->p<ns.length->Over (nth ns) q p->nth (ZfH T) q<nth (ZfH T) p:=λq p hq hp h=>by
  rw[hd q hq,hd p hp]
  have:=Zpg hp hq h;omega
 generalize nth (ZfH T)=g at lt
 clear hd
 have pv:∀q,Z5 (nth ns) p q->Z5 g p q:=λq h=>by
  refine⟨h.1,Int.le_of_lt (lt q p (by have:=h.1;omega) hp (.inl ⟨h.1,λr r1 r2=>?_⟩)),λr r1 r2=>lt p r hp (by omega) (.inr ⟨r2,λs s1 s2=>h.2.2 s (by omega) s2⟩)⟩
  by_cases z:r=p
  ·rw[z];exact h.2.1
  ·have:=h.2.2 r r1 (by omega);have:=h.2.1;omega
 have nx:∀r,Z3 (nth ns) ns.length p r->Z3 g ns.length p r:=λq h=>by
  refine⟨h.1,h.2.1,lt q p h.2.1 hp (.inr ⟨h.1,λr r1 r2=>?_⟩),λs s1 s2=>Int.le_of_lt (lt p s hp (by have:=h.2.1;omega) (.inl ⟨s1,λr r1 r2=>h.2.2.2 r r1 (by omega)⟩))⟩
  by_cases z:r=p
  ·rw[z];exact h.2.2.1
  ·have:=h.2.2.2 r (by omega) r2;have:=h.2.2.1;omega
 have np:ZbW (nth ns) p->ZbW g p:=λh q hq=>lt p q hp (by omega) (.inr ⟨hq,λr r1 r2=>h r r2⟩)
 have nn:Zbl (nth ns) ns.length p->Zbl g ns.length p:=λh r r1 r2=>Int.le_of_lt (lt p r hp r2 (.inl ⟨r1,λs s1 s2=>h s s1 (by omega)⟩))
 have hE:ZI (nth ns) ns.length p (T.getD p 0):=hT.2 p hp
 rcases hE with⟨h1,h2,h⟩|⟨q,h1,h2,h⟩|⟨r,h1,h2,h⟩|⟨q,r,h1,h2,h⟩
 ·exact .inl ⟨np h1,nn h2,h⟩
 ·exact .inr (.inl ⟨q,pv q h1,nn h2,h⟩)
 ·exact .inr (.inr (.inl ⟨r,np h1,nx r h2,h⟩))
 ·refine .inr (.inr (.inr ⟨q,r,pv q h1,nx r h2,?_⟩))
  rw[h]
  have hq:q<ns.length:=by have:=h1.1;omega
  by_cases z:nth ns q<=nth ns r
  ·have:=lt q r hq h2.2.1 (.inl ⟨by have:=h1.1;have:=h2.1;omega,λs s1 s2=>by
    by_cases y:s=r
    ·rw[y];exact z
    ·by_cases y2:s=p
     ·rw[y2];exact h1.2.1
     ·have:=h1.2.1
      by_cases y3:s<p
      ·have:=h1.2.2 s s1 y3;omega
      ·have:=h2.2.2.2 s (by omega) (by omega);omega⟩)
   rw[Yc z,Yc (by omega)]
  ·have:=lt r q h2.2.1 hq (.inr ⟨by have:=h1.1;have:=h2.1;omega,λs s1 s2=>by
    have:=h1.2.1;have:=h2.2.2.1
    by_cases y:s=q
    ·rw[y];omega
    ·by_cases y2:s=p
     ·rw[y2];omega
     ·by_cases y3:s<p
      ·have:=h1.2.2 s (by omega) y3;omega
      ·have:=h2.2.2.2 s (by omega) (by omega);omega⟩)
   rw[Yb z,Yb (by omega)]
theorem Znt (T:List Int):(∃ns,Zl ns T)↔Zl (ZfH T) T:=⟨λ⟨_,h⟩=>Zns h,λh=>⟨_,h⟩⟩
end L2
namespace L2
open PySem PySem.Spec PyProof.Rows PySem.W
noncomputable def ZhH (es:List Int) (A B:List Nat) (i:Nat):List Int:=match A.getLast? with
 |some q=>(match B.head? with|some b=>es.set b i|none=>es).set i (q:Int)
 |none=>match B.head? with|some b=>es.set b i|none=>es
noncomputable def ZR (l:List Nat):List V:=l.map λq=>V.int (q:Nat)
theorem Zge (l:List Int) (a p:Nat) (v:Int) (h:p<l.length):(l.set a v).getD p 0=if a=p then v else l.getD p 0:=by
 rw[Yr,Yr]
 by_cases e:a=p
 ·subst e;rw[Yc rfl,List.getElem?_set_self h];rfl
 ·rw[Yb e,List.getElem?_set_ne e]
theorem Zph (es:List Int) (A B:List Nat) (i:Nat):(ZhH es A B i).length=es.length:=by
 unfold ZhH
 cases A.getLast?<;>cases B.head?<;>simp
theorem ZmU (es:List Int) (A B:List Nat) (i p:Nat) (hp:p<es.length) (hb:∀b,B.head?=some b->b≠i):(ZhH es A B i).getD p 0=if p=i then (match A.getLast? with|some q=>(q:Int)|none=>es.getD i 0)else if B.head?=some p then (i:Int)else es.getD p 0:=by
 unfold ZhH
 cases hA:A.getLast? with
 |none =>
  cases hB:B.head? with
  |none =>
   by_cases e:p=i
   ·rw[Yc e,e]
   ·rw[Yb e,Yb (by simp)]
  |some b =>
   show(es.set b i).getD p 0=_
   rw[Zge _ _ _ _ hp]
   by_cases e:p=i
   ·rw[Yc e,Yb (by rw[e];exact hb b hB),e]
   ·rw[Yb e]
    by_cases e2:b=p
    ·rw[Yc e2,Yc (by rw[e2])]
    ·rw[Yb e2,Yb (by intro z;exact e2 (Yy z))]
 |some q =>
  cases hB:B.head? with
  |none =>
   show(es.set i q).getD p 0=_
   rw[Zge _ _ _ _ hp]
   by_cases e:p=i
   ·rw[Yc e,Yc e.symm]
   ·rw[Yb e,Yb (λz=>e z.symm),Yb (by simp)]
  |some b =>
   show((es.set b i).set i q).getD p 0=_
   rw[Zge _ _ _ _ (by simpa using hp),Zge _ _ _ _ hp]
   by_cases e:p=i
   ·rw[Yc e,Yc e.symm]
   ·rw[Yb e,Yb (λz=>e z.symm)]
    by_cases e2:b=p
    ·rw[Yc e2,Yc (by rw[e2])]
    ·rw[Yb e2,Yb (by intro z;exact e2 (Yy z))]
theorem Zpi:∀(l:List Nat) (i lo:Nat),l.Pairwise (· < ·)->(∀q∈l,lo<=q/\q<i)->l.length+lo<=i\/l=[]
 |[],_,_,_,_=>.inr rfl
 |q::r,i,lo,h,hq=>by
  have h1:=hq q (by simp)
  have hr:=Y8.mp h
  rcases Zpi r i (q+1) hr.2 (λx hx=>⟨hr.1 x hx,(hq x (by simp[hx])).2⟩)with z|z
  ·left;simp;omega
  ·left;rw[z];simp;omega
theorem ZaN (l:List Nat):(ZR l).length=l.length:=by simp[ZR]
theorem Zfm (a b:List Nat):ZR (a++b)=ZR a++ZR b:=by simp[ZR]
theorem Zei {l:List Nat}{j q:Nat} (h:l[j]?=some q):atI (ZR l) (j:Int)=some (V.int (q:Nat)):=by
 have hj:=(Yp.mp h).1
 have e:=(Yp.mp h).2
 rw[Zl8 rfl (by rw[ZaN];exact hj)]
 simp[ZR,e]
theorem Zdz {n j:Nat} (h:j<n):ixN n (j:Int)=some j:=by
 unfold ixN
 rw[Yc (by omega),Yc (by omega)];simp
section
variable {X:Cx}
noncomputable def tRngV2 (ta:TA):TE:=fun σ H Q=>ta σ H λvs H1=>∃i j:Int,vs=[.int i,.int j]/\-(2 ^ 62)<=i/\i<2 ^ 62/\-(2 ^ 62)<=j/\j<2 ^ 62/\∀p,H1 p=none->Q (.ref p) (upd H1 p (.rng i j))
theorem Znu {a b:Expr}{ta:TA}{p pos:Pos} (hg:Gl X "range") (hm:X.mg "range"=none) (ha:PA X [a,b] ta) (hs:starEach [a,b] X.env=[(false,eval a X.env),(false,eval b X.env)]:=by rfl) (hs2:starEach [b] X.env=[(false,eval b X.env)]:=by rfl):PE X (.Call (.Name "range" p) [a,b] [] pos) (tRngV2 ta):=by
 intro pins s σ H Q I h
 refine wpAny_Call_Name_kw (ZaW I hg hm boot_range (PyProof.Rows.callWith_type1 (thn (ha pos pins s σ H _ I h) λus s1 ⟨vs,H1,I1,r1,q1⟩=>?_) (by rw[hs,hs2]) (by rw[hs2];rfl)))
 obtain⟨i,j,e,q1,q2,q3,q4,q⟩:=q1
 subst e
 cases r1 with
 |cons r rr =>
  cases rr with
  |cons r' rr =>
   cases rr
   obtain⟨t,rfl⟩:=r
   obtain⟨t',rfl⟩:=r'
   refine call_range_2 ⟨.ref s1.heap.objs.size,_,I1.laid (λb o e=>Yg _ e) (Yd _) ?_,rfl,q _ (I1.hok.fresh (Yd _))⟩
   exact⟨_,_,_,Ym _ rfl⟩
end
noncomputable def wayI (T:List Int) (p:Nat):List Int:=(Z9 T T.length (nth T p)).map λq=>((q:Nat):Int)
noncomputable def ZT (T:List Int):Prop:=T.length<=40/\∃ns,Zl ns T
theorem Zgf (T:List Int):∀k a,(Z9 T k a).length<=k
 |0,_=>by simp[Z9]
 |k+1,a=>by
  rw[Z9]
  split
  ·have:=Zgf T k (nth T a.toNat);simp;omega
  ·simp
noncomputable def ZaU (T:List Int):Nat->Int->Int
 |0,a=>a
 |j+1,a=>if 0<=a/\a<T.length then ZaU T j (nth T a.toNat)else a
theorem ZjI (T:List Int):∀j a,0<=ZaU T j a->ZaU T j a<T.length->(Z9 T j a).length=j->Z9 T (j+1) a=Z9 T j a++[(ZaU T j a).toNat]/\ZaU T (j+1) a=nth T (ZaU T j a).toNat
 |0,a,h0,h1,_=>by
  have h0':0<=a:=h0
  have h1':a<T.length:=h1
  constructor
  ·simp[Z9,ZaU,h0',h1']
  ·simp[ZaU,h0',h1']
 |j+1,a,h0,h1,hl=>by
  rw[Z9]at hl
  by_cases z:0<=a/\a<T.length
  ·rw[Yc z]at hl
   have e1:ZaU T (j+1) a=ZaU T j (nth T a.toNat):=by rw[ZaU,Yc z]
   rw[e1]at h0 h1
   have ih:=ZjI T j (nth T a.toNat) h0 h1 (by simpa using hl)
   constructor
   ·rw[Z9,Yc z,ih.1,Z9.eq_def T (j+1) a]
    simp only[Yc z,e1];simp
   ·rw[ZaU,Yc z,ih.2,e1]
  ·rw[Yb z]at hl;simp at hl
theorem ZjJ (T:List Int):∀j k a,j<=k->(Z9 T j a).length=j->¬ (0<=ZaU T j a/\ZaU T j a<T.length)->Z9 T k a=Z9 T j a
 |0,k,a,_,_,h=>by
  have h':¬ (0<=a/\a<T.length):=h
  cases k with
  |zero=>rfl
  |succ k=>rw[show Z9 T 0 a=[]from rfl,Z9,Yb h']
 |j+1,k,a,hk,hl,h=>by
  rw[Z9]at hl
  by_cases z:0<=a/\a<T.length
  ·rw[Yc z]at hl
   rw[ZaU,Yc z]at h
   obtain⟨k',rfl⟩:∃k',k=k'+1:=⟨k-1,by omega⟩
   rw[Z9,Yc z,ZjJ T j k' _ (by omega) (by simpa using hl) h,Z9,Yc z]
  ·rw[Yb z]at hl;simp at hl
section
variable {prog:Program}{w:World}{A:Around}{E:Value->Shared->Prop}{s:Shared}
theorem Zk5 {a c n:Nat} (hac:a<=c) (han:a<=n):sliceBounds (some (a:Int)) (some (c:Int)) none n=((a:Int),((min c n:Nat):Int),1):=by
 simp only[sliceBounds,Option.getD_none]
 have h1:¬ ((a:Int)<0):=by omega
 have h2:¬ ((c:Int)<0):=by omega
 simp only[h1,h2,if_false,show(1:Int)>0 by decide,if_true]
 congr 1
 ·omega
 ·congr 1;omega
set_option maxRecDepth 100000 in
theorem Zil {l b sl : Addr} {items new : Array Value} {n n2 : Nat} {vl vu : Value} {a c : Nat} {Q : Unit → Shared → Prop}
    (e : s.heap.get? l = some { cls := .type "list", data := .seq items n }) (e2 : s.heap.get? b = some { cls := .type "list", data := .seq new n2 }) (hne : l ≠ b)
    (hs : s.heap.IsSliceOf sl vl vu .none) (pl : IsPart vl (some (a : Int))) (pu : IsPart vu (some (c : Int))) (hac : a ≤ c) (han : a ≤ items.size)
    (hsz : items.size + new.size ≤ sizeLine) (h : Q () { s with heap := s.heap.update l (Obj.mapSeq fun xs => xs.extract 0 a ++ new ++ xs.extract (min c items.size) xs.size) }) :
    wpAny (model prog w) A (setItem (.ref l) (.ref sl) (.ref b)) Q E s := by
  have hl : s.heap.IsList l items := PySem.IsL.isList e
  have hb : s.heap.IsList b new := PySem.IsL.isList e2
  obtain ⟨os, hos, hcs, hds⟩ := id hs
  have hTs : s.TypeIs (.ref sl) "slice" := ⟨os, hos, hcs⟩
  have hstep : ¬ ((rawPart none == rawInt 0) = true) := Yw
  have hsame : Builtin.List.listSameRef (.ref l) (.ref b) = false := by
    unfold Builtin.List.listSameRef
    exact beq_eq_false_iff_ne.mpr hne
  have hmax : (max (a : Int) ((min c items.size : Nat) : Int)).toNat = min c items.size := by omega
  have hz' : ((fun xs : Array Value => xs.extract 0 a ++ new ++ xs.extract (min c items.size) xs.size) items).size ≤ sizeLine + 1 := by
    simp only [Array.size_append, Array.size_extract]
    omega
  unfold setItem
  try with_reducible refine wpAny_holding ?_
  first | refine Ya (Ye ?_) | skip
  refine Ya (wpAny_sequenceKey hl.typeIs (by decide) ?_)
  refine Ya (wpAny_callSpecial?_slot (name := Str.ofString "__setitem__") hl.typeIs slot_list_setitem
    (wpAny_call_entry slot_list_setitem hl.typeIs entry_list_setitem ?_ (args_list_setitem _ _ _)))
  show wpAny _ _ (Builtin.List.listSubscript? (.ref sl) >>= _) _ _ s
  refine Ya ?_
  unfold Builtin.List.listSubscript?
  refine Ya (wpAny_specialOf hTs slice_no_index ?_)
  simp only [Option.isNone_none, if_true]
  refine Ye ?_
  show wpAny _ _ (typeOf (.ref sl) >>= _) _ _ s
  refine Ya (wpAny_typeOf hTs ?_)
  first
    | rw [Yb (by decide)]
    | refine PySem.W.KFB.if_not (by decide) ?_
  rw [listSliceParts_eq]
  refine Ya (Ya (wpAny_field hos hds (x := .none) rfl (Ya (wpAny_listPart .none ?_))))
  rw [Yb hstep]
  refine Ya (wpAny_field hos hds (x := vl) rfl (Ya (wpAny_listPart pl ?_)))
  refine Ya (wpAny_field hos hds (x := vu) rfl (Ya (wpAny_listPart pu (Ye ?_))))
  first
    | simp only [hsame, Bool.false_eq_true, if_false]
    | refine PySem.W.KFB.if_not hsame ?_
    | (dsimp only
       rw [Yb (by rw [hsame]; exact Yw)])
  refine Ya (m := Builtin.List.listAllItems (.ref b) "must assign iterable to extended slice") ?_
  unfold Builtin.List.listAllItems
  refine Ya (wpAny_typeOf hb.typeIs ?_)
  first
    | refine PySem.W.KFB.if_so (by decide) ?_
    | rw [Yc (by decide)]
    | simp only [beq_self_eq_true, Bool.true_or, if_true]
  unfold Builtin.List.listItems
  refine Ya (wpAny_seqItems e2 rfl (Ye ?_))
  refine Ya (Ya (wpAny_seqItems e rfl (Ye ?_)))
  refine Ya (wpAny_of_eq ((sliceIndices_raw (some (a : Int)) (some (c : Int)) none items.size (by simp)).trans (congrArg (pure : Int × Int × Int → Sem (Int × Int × Int)) (Zk5 hac han))) ?_)
  show wpAny _ _ (if ((1 : Int) == 1) = true then _ else _) _ _ s
  rw [Yc (by decide)]
  refine Ya (wpAny_rule ?_)
  first
    | simp only [Zia hsz, Bool.false_eq_true, if_false]
    | refine PySem.W.KFB.if_not (Zia hsz) ?_
  first | refine Ya (Ye ?_) | skip
  show wpAny _ _ (updateSeq l (fun xs => xs.extract 0 ((a : Int)).toNat ++ new ++ xs.extract (max (a : Int) ((min c items.size : Nat) : Int)).toNat xs.size) >>= _) _ _ s
  rw [hmax, Y5]
  refine Ya (wpAny_updateSeq (hz := Yf (Nat.le_add_right _ _) hsz) (_hz' := hz') e rfl ?_)
  refine Ya (wpAny_letGo ?_)
  first
    | exact Ya (Ye (Ye ⟨.none, rfl, Ye h⟩))
    | exact Ye ⟨.none, rfl, Ye h⟩
end
section
variable {X:Cx}
theorem Zmf {pins:List (Addr×Obj)}{s:Shared}{σ:St}{H:Hp}{l b sl:Addr}{xs ys:List V}{a c:Int}{vl vu:Value}{Q:Unit->Shared->Prop} (I:Inv X pins σ H s)
  (hH:H l=some (.lst xs)) (hB:H b=some (.lst ys)) (hne:l≠b) (hs:s.heap.IsSliceOf sl vl vu .none) (ra:RelV (.int a) vl) (rc:RelV (.int c) vu) (h0:0<=a) (hac:a<=c) (hc:a<=xs.length)
  (hz:xs.length+ys.length<=sizeLine) (h:∀s',Inv X pins σ (upd H l (.lst (xs.take a.toNat++ys++xs.drop c.toNat))) s'->Q () s') :
  wpAny (model X.prog X.w) X.A (setItem (.ref l) (.ref sl) (.ref b)) Q X.xe s:=by
 obtain⟨ta,rfl⟩:=ra
 obtain⟨tc,rfl⟩:=rc
 obtain⟨z,its,n,r,hl,e⟩:=I.Zja hH
 obtain⟨z2,its2,n2,r2,hl2,e2⟩:=I.Zja hB
 obtain⟨a',rfl⟩:=YR h0
 obtain⟨c',rfl⟩:=YR (Int.le_trans h0 hac)
 simp only[Y5]at h
 have hdr:its.drop c'=its.drop (min c' its.toArray.size):=by
  rw[Yo]
  by_cases q:c'<=its.length
  ·rw[Nat.min_eq_left q]
  ·rw[Nat.min_eq_right (by omega),List.drop_eq_nil_of_le (by omega),List.drop_eq_nil_of_le (Yd _)]
 refine Zil (a:=a') (c:=c') e e2 hne hs (.int _ _) (.int _ _) (by omega) (by rw[Yo];omega) (by rw[Yo,Yo];omega) (h _ ?_)
 refine I.lset (its':=its.take a'++its2++its.drop c') (t':=s.toks) hH e ?_ (Vals.append (Vals.append (r.take _) r2) (r.drop _)) ?_
 ·rw[hdr];exact Zne its its2 a' _
 ·rw[YD,YD,YW,Y7]
  omega
noncomputable def gSubSl (to tl tu:TE):TG:=λv σ H Q=>to σ H λx H1=>tl σ H1 λy H2=>tu σ H2 λz H3=>∃(l b:Addr) (xs ys:List V) (a c:Int),x=.ref l/\v=.ref b/\y=.int a/\z=.int c/\H3 l=some (.lst xs)/\H3 b=some (.lst ys)/\l≠b/\0<=a/\a<=c/\a<=xs.length/\xs.length+ys.length<=sizeLine/\Q σ (upd H3 l (.lst (xs.take a.toNat++ys++xs.drop c.toNat)))
theorem Zpj {o lo hi:Expr}{to tl tu:TE}{pos p2:Pos} (ho:PE X o to) (hl:PE X lo tl) (hu:PE X hi tu)
  (ha:∀v,assign (.Subscript o (.Slice (some lo) (some hi) none p2) pos) X.env v=(do
   let ov <-holding [v] (eval o X.env)
   let iv <-holding [v,ov] (eval (.Slice (some lo) (some hi) none p2) X.env)
   standAt pos
   holding [v,ov,iv] (setItem ov iv v)
   release [iv,v,ov] []):=by intro _;rfl):PG X (.Subscript o (.Slice (some lo) (some hi) none p2) pos) (gSubSl to tl tu):=by
 intro pins s σ H v u Q I r h
 rw[ha]
 refine Ya (wpAny_holding (thn (ho pins s σ H _ I h) λov s1 ⟨x,H1,I1,r1,q1⟩=>?_))
 refine Ya (wpAny_holding ?_)
 refine wpAny_Slice ?_
 rw[evalPart_some]
 refine thn (hl pins s1 σ H1 _ I1 q1) λvl s2 ⟨y,H2,I2,r2,q2⟩=>?_
 rw[evalPart_some]
 refine thn (hu pins s2 σ H2 _ I2 q2) λvu s3 ⟨z,H3,I3,r3,q3⟩=>?_
 rw[evalPart_none]
 refine Ye ?_
 obtain⟨l,b,xs,ys,a,c,rfl,rfl,rfl,rfl,hx,hb,hne,h0,h1,h2,h3,q⟩:=q3
 cases r1
 cases r
 have I4:Inv X pins σ H3 {s3 with heap:=s3.heap.push {cls:=.type "slice",data:=.fields #[vl,vu,.none]}}:=I3.kept (t':=s3.toks) λb ob q=>Yg _ q
 refine Ya (wpAny_standAt (Ya (wpAny_holding ?_)))
 exact Zmf I4 hx hb hne (Heap.IsSliceOf.new ..) r2 r3 h0 h1 h2 h3 λs' I'=>wpAny_release ⟨σ,_,I',q⟩
end
theorem ZQ {a b:TS}{D:Ends}{σ:St}{H:Hp} (Mid:St->Hp->Prop) (h1:∀R:St->Hp->Prop,(∀σ' H',Mid σ' H'->R σ' H')->a {D with nx:=R} σ H) (h2:∀σ' H',Mid σ' H'->b D σ' H'):tSeq a b D σ H:=h1 _ h2
theorem Zmg (xs:List V) (j:Nat):ZcV xs none (some (j:Int))=xs.take j:=by
 have h:¬ ((j:Int)<0):=by omega
 unfold ZcV HT.sIx
 simp only[Yb h,List.drop_zero,Nat.sub_zero]
 rw[List.take_eq_take_iff]
 omega
end L2
namespace L2
open PySem PySem.Spec PyProof.Rows
structure CellsOf (cl:List (Str×Addr)) (n0:Nat) (cs:List (Str×Addr)) (h0 h:Heap) (done:List (Str×NameKind)):Prop where
 old:∀b o,h0.get? b=some o->h.get? b=some o
 sz:n0<=h.objs.size
 mem:∀p∈cs,p∈cl\/(n0<=p.2/\p.2<h.objs.size/\h.IsCell p.2 none)
 inj:∀p∈cs,∀q∈cs,n0<=p.2->p.2=q.2->p.1=q.1
 own:∀y∈done,y.2=.cell->∃c,cs.lookup y.1=some c/\n0<=c
 oth:∀x,(∀y∈done,y.2=.cell->y.1≠x)->cs.lookup x=cl.lookup x
theorem ZgN {M:Model}{A:Around}{E:Value->Shared->Prop}{cl:List (Str×Addr)}{n0:Nat}{h0:Heap} (hcl:∀p∈cl,p.2<n0):∀(names:List (Str×NameKind)) (cs:List (Str×Addr)) (done:List (Str×NameKind)) (s:Shared),CellsOf cl n0 cs h0 s.heap done ->
  wpAny M A (forIn names cs λ(x:Str×NameKind) (r:List (Str×Addr))=>(match x with
   |(name,kind)=>if (kind==NameKind.cell)=true then do
     let a <-alloc {cls:=.type "cell",data:=.cell none}
     pure (ForInStep.yield ((name,a)::r))
    else pure (ForInStep.yield r):Sem (ForInStep (List (Str×Addr))))) (λcs' s'=>∃h',s'={s with heap:=h'}/\CellsOf cl n0 cs' h0 h' (done++names)) E s
 |[],cs,done,s,I=>by
  rw[List.forIn_nil,List.append_nil]
  exact Ye ⟨s.heap,rfl,I⟩
 |(n,k)::r,cs,done,s,I=>by
  rw[List.forIn_cons]
  by_cases hk:k=.cell
  ·subst hk
   simp only[beq_self_eq_true,if_true]
   refine Ya (Ya (wpAny_alloc (Ye ?_)))
   have hget:(s.heap.push {cls:=.type "cell",data:=.cell none}).get? s.heap.objs.size=some {cls:=.type "cell",data:=.cell none}:=Ym _ rfl
   have I':CellsOf cl n0 ((n,s.heap.objs.size)::cs) h0 (s.heap.push {cls:=.type "cell",data:=.cell none}) (done++[(n,.cell)]):=by
    refine⟨λb o e=>Yg _ (I.old b o e),by rw[Heap.size_push];exact Nat.le_succ_of_le I.sz,λp hp=>?_,λp hp q hq hn e=>?_,λy hy hc=>?_,λx hx=>?_⟩
    ·rcases Yl.mp hp with z|z
     ·subst z
      exact .inr ⟨I.sz,by rw[Heap.size_push];exact Nat.lt_succ_self _,_,hget,rfl⟩
     ·rcases I.mem p z with w|⟨w1,w2,o,w3,w4⟩
      ·exact .inl w
      ·exact .inr ⟨w1,by rw[Heap.size_push];exact YG w2,o,Yg _ w3,w4⟩
    ·have lt:∀p∈cs,p.2<s.heap.objs.size:=λp hp=>by
      rcases I.mem p hp with w|w
      ·exact Ys (hcl p w) I.sz
      ·exact w.2.1
     rcases Yl.mp hp with z|z<;>rcases Yl.mp hq with z'|z'
     ·rw[z,z']
     ·subst z;exact absurd (show s.heap.objs.size<s.heap.objs.size from(show s.heap.objs.size=q.2 from e)▸lt q z') (YA _)
     ·subst z';exact absurd (show s.heap.objs.size<s.heap.objs.size from(show p.2=s.heap.objs.size from e)▸lt p z) (YA _)
     ·exact I.inj p z q z' hn e
    ·rcases YE.mp hy with z|z
     ·obtain⟨c,e1,e2⟩:=I.own y z hc
      by_cases hx:y.1=n
      ·exact⟨s.heap.objs.size,by rw[hx];simp,I.sz⟩
      ·have hb:(y.1==n)=false:=by simpa using hx
       exact⟨c,by simp only[List.lookup_cons,hb];exact e1,e2⟩
     ·have:y=(n,.cell):=by simpa using z
      subst this
      exact⟨s.heap.objs.size,by simp,I.sz⟩
    ·have hxn:n≠x:=hx (n,.cell) (by simp) rfl
     have hb:(x==n)=false:=by simpa using hxn.symm
     simp only[List.lookup_cons,hb]
     exact I.oth x λy hy=>hx y (YN _ hy)
   refine thn (ZgN hcl r _ _ {s with heap:=s.heap.push {cls:=.type "cell",data:=.cell none}} I') λcs' s' ⟨h',e1,e2⟩=>⟨h',e1,?_⟩
   rw[YX]at e2
   exact e2
  ·have e1:(k==NameKind.cell)=false:=by cases k<;>first|rfl|exact absurd rfl hk
   simp only[e1,Bool.false_eq_true,if_false]
   refine Ya (Ye ?_)
   have I':CellsOf cl n0 cs h0 s.heap (done++[(n,k)]):=by
    refine⟨I.old,I.sz,I.mem,I.inj,λy hy hc=>?_,λx hx=>I.oth x λy hy=>hx y (YN _ hy)⟩
    rcases YE.mp hy with z|z
    ·exact I.own y z hc
    ·have:y=(n,k):=by simpa using z
     subst this
     exact absurd hc hk
   refine thn (ZgN hcl r _ _ s I') λcs' s' ⟨h',e1,e2⟩=>⟨h',e1,?_⟩
   rw[YX]at e2
   exact e2
theorem Zmh {M:Model}{A:Around}{E:Value->Shared->Prop}{s:Shared}{scope:Scope}{globals:Addr}{cl:List (Str×Addr)}{qual:Str}{around:Env}{Q:Env->Shared->Prop} (hcl:∀p∈cl,p.2<s.heap.objs.size)
  (h:∀cs h',CellsOf cl (s.heap.objs.size+1) cs (s.heap.push {cls:=.type "dict",data:=.dict #[]}) h' scope.names->Q {scope:=scope,locals:=s.heap.objs.size,globals:=globals,cells:=cs,qual:=qual,func:=none,code:=around.code,frame:=around.frame,builtins:=around.builtins} {s with heap:=h'}) :
  wpAny M A (newFunctionEnv scope globals cl [] qual none .none (some around)) Q E s:=by
 unfold newFunctionEnv
 refine Ya (wpAny_alloc ?_)
 refine Ya (thn (ZgN (cl:=cl) (n0:=s.heap.objs.size+1) (h0:=s.heap.push {cls:=.type "dict",data:=.dict #[]}) (λp hp=>YG (hcl p hp)) scope.names cl [] {s with heap:=s.heap.push {cls:=.type "dict",data:=.dict #[]}} ⟨λb o e=>e,by rw[Heap.size_push];exact Yd _,λp hp=>.inl hp,λp hp q hq hn e=>absurd (hcl p hp) (Nat.not_lt_of_le (Nat.le_of_succ_le hn)),λy hy=>(nomatch hy),λx hx=>rfl⟩) λcs s' ⟨h',e1,e2⟩=>?_)
 subst e1
 rw[List.nil_append]at e2
 exact Ya (Ye (Ye (h cs h' e2)))
noncomputable def Zbm (around scope:Scope):Bool :=
 scope.kind==.function&&around.kind==.function&&scope.names.all λy=>match y.2 with
  |.local=>scope.names.lookup y.1==some .local
  |.cell=>scope.names.lookup y.1==some .cell
  |.free=>(scope.names.lookup y.1==some .free)&&(around.names.lookup y.1==some .cell||around.names.lookup y.1==some .free)
  |_=>true
theorem Zgg {a s:Scope} (h:Zbm a s=true):s.kind=.function:=by
 simp only[Zbm,Bool.and_eq_true,beq_iff_eq]at h;exact h.1.1
theorem ZfI {a s:Scope} (h:Zbm a s=true) {y:Str×NameKind} (hy:y∈s.names):(match y.2 with
  |.local=>s.names.lookup y.1==some .local
  |.cell=>s.names.lookup y.1==some .cell
  |.free=>(s.names.lookup y.1==some .free)&&(a.names.lookup y.1==some .cell||a.names.lookup y.1==some .free)
  |_=>true)=true:=by
 simp only[Zbm,Bool.and_eq_true]at h
 exact List.all_eq_true.mp h.2 y hy
theorem Zjd {a s:Scope} (h:Zbm a s=true):∀y∈s.names,y.2=.local->s.names.lookup y.1=some .local:=λy hy e=>by
 have q:=ZfI h hy
 rw[e]at q
 exact beq_iff_eq.mp q
theorem Zke {a s:Scope} (h:Zbm a s=true):∀y∈s.names,y.2=.cell->s.names.lookup y.1=some .cell:=λy hy e=>by
 have q:=ZfI h hy
 rw[e]at q
 exact beq_iff_eq.mp q
theorem ZdA {a s:Scope} (h:Zbm a s=true):∀y∈s.names,y.2=.free->s.names.lookup y.1=some .free/\(a.names.lookup y.1=some .cell\/a.names.lookup y.1=some .free):=λy hy e=>by
 have q:=ZfI h hy
 rw[e]at q
 simp only[Bool.and_eq_true,Bool.or_eq_true,beq_iff_eq]at q
 exact q
noncomputable def ZaO (X:Cx) (Nc:List Str) (scope:Scope) (cs:List (Str×Addr)) (C:Addr) (s2:Shared) (H2:Hp) (fp:List Addr):Cx :=
 {ZoY X Nc scope cs C s2 H2 fp with fn:=λx=>scope.names.lookup x==some .cell}
theorem Zk6 {env:Env}{scope:Scope} (h:∀y∈scope.names,y.2=.free->∃c,env.cells.lookup y.1=some c) :
  ∃cl,closureFor scope env=pure cl/\(∀p∈cl,env.cells.lookup p.1=some p.2)/\(∀y∈scope.names,y.2=.free->∃c,cl.lookup y.1=some c/\env.cells.lookup y.1=some c):=by
 obtain⟨cl,e,h1,h2,h3⟩:=Zdu (env:=env) scope.names [] h
 have up:∀p∈cl,env.cells.lookup p.1=some p.2:=λp q=>by
  rcases h1 _ q with z|z
  ·cases z
  ·exact z
 refine⟨cl,?_,up,λy hy hf=>?_⟩
 ·unfold closureFor
  simp only[bind_pure_comp]at e⊢
  rw[e]
  exact pure_bind _ _
 ·obtain⟨c,hc⟩:=h3 y hy hf
  cases q:cl.lookup y.1 with
  |none=>exact absurd (List.lookup_eq_none_iff.mp q _ hc) (by simp)
  |some c'=>exact⟨c',rfl,up _ (PySem.mem_of_lookup q)⟩
section
variable {X:Cx}
theorem Zk7 {pins:List (Addr×Obj)}{σ:St}{H2:Hp}{s2:Shared}{Nc:List Str}{js:List (Option Nat)}{scope:Scope}{cs:List (Str×Addr)}{fp:List Addr}{h1:Heap}{tk:Nat}{D C:Addr}{oD:Obj}{m:Str->Option Value}
  (I:Inv X pins σ H2 s2) (hok:Zbm X.env.scope scope=true) (htk:takesC X.N Nc scope js 0=true) (up:∀x c,cs.lookup x=some c->X.env.cells.lookup x=some c\/(C<c/\h1.IsCell c none)) (hinj:∀x y c,cs.lookup x=some c->cs.lookup y=some c->x=y) (hown:∀y∈scope.names,y.2=.cell->∃c,cs.lookup y.1=some c/\C<c) (hfr:∀y∈scope.names,y.2=.free->∃c,cs.lookup y.1=some c/\X.env.cells.lookup y.1=some c)
  (hfp:∀b∈fp,FpOk X pins H2 b) (hfl:∀b∈fp,b<s2.heap.objs.size) (hD:D=s2.heap.objs.size) (hC:C=s2.heap.objs.size+1) (old:∀b o,s2.heap.get? b=some o->h1.get? b=some o) (hns:h1.Ns C m) (hoD:h1.get? D=some oD) (hdD:∀v,oD.data≠.cell v) :
  Inv (ZaO X Nc scope cs C s2 H2 fp) [(D,oD)] (iniC js σ) H2 {s2 with heap:=h1,toks:=tk}:=by
 have leC:s2.heap.objs.size<=C:=by rw[hC];exact YT _
 have leD:s2.heap.objs.size<=D:=Y3 hD.symm
 have kf:∀x,((compEnvC scope cs C X.env).kindOf x=some .cell\/(compEnvC scope cs C X.env).kindOf x=some .free)->∃c,cs.lookup x=some c:=λx hx=>by
  have:∃k,(compEnvC scope cs C X.env).kindOf x=some k/\(k=.cell\/k=.free):=hx.elim (λq=>⟨_,q,.inl rfl⟩) λq=>⟨_,q,.inr rfl⟩
  obtain⟨k,e,hk⟩:=this
  obtain⟨k',h1,h2⟩:=Za6 (show(scope.names.map _).lookup x=some k from e)
  have hm:=lookup_mem h1
  have:k'=.free\/k'=.cell:=by
   rcases h2 with q|q
   ·subst q
    exact hk.symm
   ·exact .inl q.1
  rcases this with z|z
  ·subst z
   obtain⟨c,q,_⟩:=hfr _ hm rfl
   exact⟨c,q⟩
  ·subst z
   obtain⟨c,q,_⟩:=hown _ hm rfl
   exact⟨c,q⟩
 have nC:∀c x,X.env.cells.lookup x=some c->c<s2.heap.objs.size:=λc x e=>by
  obtain⟨v,q⟩:=I.cell x c e
  exact q.lt
 have noB:∀b,b∈fp->b∉frs X.stack:=λb hb q=>by
  rcases Yl.mp (I.ZgE b q)with z|z
  ·exact(hfp b hb).2.1 z
  ·exact(hfp b hb).2.2.1 z
 have okX:(ZaO X Nc scope cs C s2 H2 fp).Ok:=by
  refine⟨I.ok.mod,(show scope.kind=.function from Zgg hok),I.ok.glob,I.ok.blt,?_,λx y c e1 e2=>hinj x y c e1 e2,λx hx=>?_,(λx c e1 e2=>?_),I.ok.hd,I.ok.frames,.inl rfl,λb hb=>⟨?_,λx c e=>(up _ _ e).elim (λz=>(hfp b hb).2.2.2.2.1 x c z) λz=>Nat.ne_of_gt (Nat.lt_trans (Ys (hfl b hb) leC) z.1)⟩,I.bs,Yf I.ok.bsz I.sz,λb o e hb=>?_,λb hb=>noB b hb,I.stack,I.ZhR⟩
  ·show s2.heap.objs.size<=C;exact leC
  ·exact kf x hx
  ·have hm:=lookup_mem (beq_iff_eq.mp (show(scope.names.lookup x==some NameKind.cell)=true from e1))
   obtain⟨c',q1,q2⟩:=hown _ hm rfl
   have:c=c':=Yy ((show cs.lookup x=some c from e2).symm.trans q1)
   rw[this]
   exact Yf leC (YI q2)
  ·exact Yk (Ys (hfl b hb) leC)
  ·rcases(hfp b hb).2.2.2.1 with q|q
   ·exact I.ok.noex b o e q
   ·exact absurd (Ys (Yj e) (Yf I.ok.bsz q)) (YA _)
 refine⟨okX,rfl,I.bare,Un.kept old,⟨m,hns,λi x v e1 e2 e3=>?_⟩,λx c e=>?_,I.hok.fresh leC,λx c e=>(up _ _ e).elim (λz=>I.freeC x c z) λz=>I.hok.fresh (Yf leC (YI z.1)),λp hp=>?_,I.hok.kept old,?_⟩
 ·have e2':(iniC js σ)[i]?=some (some v):=e2
  unfold iniC at e2'
  rw[YC]at e2'
  cases q:js[i]? with
  |none=>rw[q]at e2';cases e2'
  |some j0 =>
   cases j0 with
   |none=>rw[q]at e2';cases e2'
   |some j =>
    rw[q]at e2'
    simp only[Option.map_some,Option.some.injEq]at e2'
    have e4:σ[j]?=some (some v):=by
     cases z:σ[j]? with
     |none=>rw[z]at e2';cases e2'
     |some o=>rw[z]at e2';simp only[Option.join_some]at e2';rw[e2']
    obtain⟨y,y1,y2,y3⟩:=Zfg htk q
    rw[Nat.zero_add]at y1
    have:x=y:=Yy ((show Nc[i]?=some x from e1).symm.trans y1)
    subst this
    have hm:=lookup_mem y3
    obtain⟨c,c1,c2⟩:=hfr _ hm rfl
    have hk:=(ZdA hok _ hm rfl).2
    obtain⟨m0,hn0,hl0⟩:=I.loc
    obtain⟨u,r,l⟩:=hl0 j x v y2 e4 (hk.elim (λz=>.inr (.inl z)) λz=>.inr (.inr z))
    refine⟨u,r,.inr ⟨?_,c,c1,?_⟩⟩
    ·rcases e3 with z|z|z
     ·obtain⟨k',w1,w2⟩:=Za6 (show(scope.names.map _).lookup x=some NameKind.local from z)
      rw[y3]at w1;cases w1
      rcases w2 with w|w
      ·cases w
      ·cases w.2
     ·exact .inl z
     ·exact .inr z
    ·rcases l with⟨lk,_⟩|⟨_,c',c3,c4⟩
     ·rcases hk with z|z
      ·rw[show X.env.kindOf x=some .cell from z]at lk;cases lk
      ·rw[show X.env.kindOf x=some .free from z]at lk;cases lk
     ·rw[c2]at c3;cases c3
      obtain⟨oc,w1,w2⟩:=c4
      exact⟨oc,old _ _ w1,w2⟩
 ·rcases up _ _ e with z|z
  ·obtain⟨v,oc,w1,w2⟩:=I.cell x c z
   exact⟨v,oc,old _ _ w1,w2⟩
  ·exact⟨_,z.2⟩
 ·have:p=(D,oD):=by
   have hp':p∈([]++[(D,oD)]:List (Addr×Obj)):=hp
   simpa using hp'
  subst this
  refine⟨hoD,I.hok.fresh leD,(by show D≠C;rw[hD,hC];exact Yk (Nat.lt_succ_self _)),λhb=>?_,hdD⟩
  have hb':D∈frs X.stack:=hb
  obtain⟨_,o,ho,_⟩:=I.stack.mem hb'
  exact absurd (Ys (Yj ho) leD) (YA _)
 ·have:=Zdv htk
  show(iniC js σ).length=Nc.length
  unfold iniC;rw[Yh];omega
theorem ZjK {pins:List (Addr×Obj)}{σ:St}{H:Hp}{s:Shared}{tg elt iter:Expr}{ifs:List Expr}{scope:Scope}{pos:Pos}{wi:TI}{g:TG}{tt:TT}{te:TE}{Nc:List Str}{js:List (Option Nat)}{use:Option (Value->Sem Unit)}{Q:VK}{QQ:Value->Shared->Prop}
  (hc:X.calm=true) (hok:Zbm X.env.scope scope=true) (htk:takesC X.N Nc scope js 0=true) (hi:PI X tg iter wi)
  (hg:∀cl C s2 H2 fp,PG (ZaO X Nc scope cl C s2 H2 fp) tg g) (ht:∀cl C s2 H2 fp,Znh (ZaO X Nc scope cl C s2 H2 fp) ifs tt) (he:∀cl C s2 H2 fp,PE (ZaO X Nc scope cl C s2 H2 fp) elt te)
  (hs:∀x,foldedSetIterable iter X.env x=pure x) {L:List Nat} (ho:ZjB g L) (hL:(L.all λk=>js[k]?==some none)=true) (I:Inv X pins σ H s) (h:ZmM wi g tt te js σ H Q)
  (fin:∀(D C:Addr) (H' H2:Hp) (s2 s':Shared) (xs:List V) (m:Str->Option Value),Inv X pins σ H2 s2->H' C=none->C=D+1->D=s2.heap.objs.size->s'.heap.Ns C m->(∀h',Heap.SameBut C s'.heap h'->Inv X pins σ (upd H' D (.lst xs)) {s' with heap:=h'})->Q (.ref D) (upd H' D (.lst xs)) ->
   compPost (model X.prog X.w) X.A X.xe use QQ (.ref D) C (.ok .next) s') :
  wpAny (model X.prog X.w) X.A (comprehension (.ListComp elt [⟨tg,iter,ifs,0⟩] scope pos) scope X.env (firstIterPos [⟨tg,iter,ifs,0⟩] pos) (newList []) false (eval iter X.env) use) QQ X.xe s:=by
 have hcells:∀y∈scope.names,y.2=.free->∃c,X.env.cells.lookup y.1=some c:=λy hy hf=>I.ok.has y.1 (ZdA hok y hy hf).2
 obtain⟨cl,hcl,upM,hfr0⟩:=Zk6 hcells
 have hk:=Zgg hok
 refine wpAny_comprehension_free (use:=use) rfl hs hcl hk (Zjd hok) (thn (hi pins s σ H _ I h) λv s1 h1=>thn h1 λitv s2 h2=>?_)
 obtain⟨it,fp,tn,J,H2,e,I2,T,st2,f2,W,⟨m0,w0⟩,turn⟩:=h2
 subst e
 have clt:∀p∈cl,p.2<s2.heap.objs.size:=λp hp=>by
  obtain⟨v,q⟩:=I2.cell p.1 p.2 (upM p hp)
  exact q.lt
 refine wpAny_newObj_type (Zmh (λp hp=>?_) λcs h₁ CO=>?_)
 ·show p.2<(s2.heap.push _).objs.size
  rw[Heap.size_push];exact YG (clt p hp)
 dsimp only at CO⊢
 generalize hH2:s2.heap.push {cls:=.type "list",dict:=none,data:=.seq ([]:List Value).toArray}=HH at CO⊢
 have hC:HH.objs.size=s2.heap.objs.size+1:=by rw[<-hH2,Heap.size_push]
 have hcl':∀p∈cl,p.2<HH.objs.size:=λp hp=>by rw[hC];exact YG (clt p hp)
 have hns₁:h₁.Ns HH.objs.size (λ_=>none):=⟨_,#[],_,CO.old _ _ (Ym _ rfl),rfl,λe he=>absurd he (by simp),λn=>rfl⟩
 have up:∀x c,cs.lookup x=some c->X.env.cells.lookup x=some c\/(HH.objs.size<c/\h₁.IsCell c none):=λx c e=>by
  rcases CO.mem _ (PySem.mem_of_lookup e)with z|z
  ·exact .inl (upM _ z)
  ·exact .inr ⟨z.1,z.2.2⟩
 have hinj:∀x y c,cs.lookup x=some c->cs.lookup y=some c->x=y:=λx y c e1 e2=>by
  have m1:=PySem.mem_of_lookup e1
  have m2:=PySem.mem_of_lookup e2
  rcases CO.mem _ m1 with z|z
  ·rcases CO.mem _ m2 with z'|z'
   ·exact I2.ok.inj x y c (upM _ z) (upM _ z')
   ·exact absurd (hcl' _ z) (Nat.not_lt_of_le (Nat.le_of_succ_le z'.1))
  ·exact CO.inj _ m1 _ m2 z.1 rfl
 have hfr:∀y∈scope.names,y.2=.free->∃c,cs.lookup y.1=some c/\X.env.cells.lookup y.1=some c:=λy hy hf=>by
  obtain⟨c,q1,q2⟩:=hfr0 y hy hf
  refine⟨c,?_,q2⟩
  rw[CO.oth y.1 λy' hy' hc' z=>?_]
  ·exact q1
  ·have w1:=Zke hok y' hy' hc'
   have w2:=(ZdA hok y hy hf).1
   rw[z,w2]at w1;cases w1
 have hfl:∀b∈fp,b<s2.heap.objs.size:=λb hb=>by
  obtain⟨o,ho,_⟩:=T.obj 0 _ st2 b hb
  exact Yj ho
 have hDC:s2.heap.objs.size≠HH.objs.size:=by rw[hC];exact Yk (Nat.lt_succ_self _)
 have old:∀b o,s2.heap.get? b=some o->h₁.get? b=some o:=λb o e=>CO.old b o (Yg _ (hH2▸Yg _ e))
 have hacc:h₁.get? s2.heap.objs.size=some {cls:=.type "list",dict:=none,data:=.seq ([]:List Value).toArray}:=CO.old _ _ (Yg _ (hH2▸Ym _ rfl))
 have I4:=Zk7 (Nc:=Nc) (js:=js) (tk:=s2.toks) I2 hok htk up hinj (λy hy hc=>CO.own y hy hc) hfr f2 hfl rfl hC old hns₁ hacc (by intro v z;cases z)
 have st4:tn 0 h₁:=T.keep _ _ _ st2 λb _ o e=>old b o e
 generalize hXc:ZaO X Nc scope cs HH.objs.size s2 H2 fp=Xc at I4
 have hXA:Xc.A=X.A:=by rw[<-hXc];rfl
 have hXe:Xc.env=compEnvC scope cs HH.objs.size X.env:=by rw[<-hXc];rfl
 have hXp:Xc.prog=X.prog:=by rw[<-hXc];rfl
 have hXw:Xc.w=X.w:=by rw[<-hXc];rfl
 have hXx:Xc.xe=λ_ _=>False:=by rw[<-hXc];rfl
 have hXk:Xc.K=X.K:=by rw[<-hXc];rfl
 have hXcalm:Xc.calm=true:=by rw[<-hXc];exact hc
 have fpok:∀{pl:List (Addr×Obj)}{H':Hp},(∀p∈pl,s2.heap.objs.size<=p.1)->(∀b∈fp,H' b=none)->∀b∈fp,FpOk Xc pl H' b:=λ{pl H'} hpl hn b hb=>by
  have k1:b≠HH.objs.size:=Yk (by rw[hC];exact YG (hfl b hb))
  have k2:b∉frs X.stack:=λq=>by
   rcases Yl.mp (I2.ZgE b q)with z|z
   ·exact(f2 b hb).2.1 z
   ·exact(f2 b hb).2.2.1 z
  rw[<-hXc]
  refine⟨hn b hb,k1,k2,.inl hb,λx c e=>(up _ _ e).elim (λz=>(f2 b hb).2.2.2.2.1 x c z) λz=>Nat.ne_of_gt (Nat.lt_trans (by rw[hC];exact YG (hfl b hb)) z.1),λp hp=>?_⟩
  have hp':p∈pl:=by simpa[ZaO,ZoY]using hp
  exact Nat.ne_of_gt (Ys (hfl b hb) (hpl p hp'))
 have gX:PG Xc tg g:=hXc▸hg cs HH.objs.size s2 H2 fp
 have tX:Znh Xc ifs tt:=hXc▸ht cs HH.objs.size s2 H2 fp
 have eX:PE Xc elt te:=hXc▸he cs HH.objs.size s2 H2 fp
 have hs0:Xc.s₀=s2:=by rw[<-hXc];rfl
 have hh0:Xc.H₀=H2:=by rw[<-hXc];rfl
 have hfs:Xc.fs=frs X.stack:=by rw[<-hXc];rfl
 have hex:Xc.ex=fp:=by rw[<-hXc];rfl
 have loop:codeAny (model X.prog X.w) X.A (.compLoop (.ListComp elt [⟨tg,iter,ifs,0⟩] scope pos) 0 (.ref it) (.ref s2.heap.objs.size) (compEnvC scope cs HH.objs.size X.env)) (compPost (model X.prog X.w) X.A X.xe use QQ (.ref s2.heap.objs.size) HH.objs.size)
   {s2 with heap:=h₁,toks:=s2.toks}:=by
  refine Zee (λn s'=>∃i acc its nn H',Inv Xc [(s2.heap.objs.size,{cls:=.type "list",dict:=none,data:=.seq (its:List Value).toArray nn})] (iniC js σ) H' s'/\Vals acc its/\acc.length<=sizeLine/\tn i s'.heap/\(∀b∈fp,H' b=none)/\W i n acc H') ?_ m0
   ⟨0,[],[],0,H2,I4,.nil,Yn _,st4,λb hb=>(f2 b hb).1,w0⟩
  rintro n s3 ⟨i,acc,its,nn,H3,I3,va,hlen,st3,fr3,w3⟩
  have pg:∀p∈([(s2.heap.objs.size,{cls:=.type "list",dict:=none,data:=.seq its.toArray nn})]:List (Addr×Obj)),s2.heap.objs.size<=p.1:=λp hp=>by
   simp only[Yl,List.not_mem_nil,or_false]at hp
   subst hp;exact Yd _
  rcases turn i n acc H3 w3 with⟨stop,hl,qn⟩|⟨go,hl,step⟩
  ·have q:=T.done Xc hXp hXw hXk hXcalm i _ s3 (iniC js σ) H3 (λ_ _=>False) I3 (fpok pg fr3) st3 stop
   rw[hXA]at q
   refine thn q λr s4 ⟨hr,I5⟩=>?_
   subst hr
   have hpin:=I5.pin _ (Yv _ (.head _))
   obtain⟨m5,hn5,_⟩:=I5.loc
   rw[hXe]at hn5
   refine fin _ _ H3 H2 s2 s4 acc m5 I2 (by have:=I5.free;rw[hXe]at this;exact this) hC rfl hn5 (λh' hsb=>?_) (qn _ hpin.2.1)
   have same:∀b o,b≠HH.objs.size->s4.heap.get? b=some o->h'.get? b=some o:=λb o hb e=>hsb.extBut b o hb e
   have un:=I5.base
   rw[hfs,hex,hh0,hs0]at un
   have lt:∀b o,s2.heap.get? b=some o->b<s2.heap.objs.size:=λb o e=>Yj e
   have neC:∀b o,s2.heap.get? b=some o->b≠HH.objs.size:=λb o e=>Yk (by rw[hC];exact YG (lt b o e))
   have neD:∀b o,s2.heap.get? b=some o->b≠s2.heap.objs.size:=λb o e=>Yk (lt b o e)
   have trkC:∀b o,H3 b=some o->b≠HH.objs.size:=λb o e z=>by
    have:=I5.free;rw[hXe]at this;rw[z,show H3 HH.objs.size=none from this]at e;cases e
   refine I2.ZoL (s':={s4 with heap:=h'}) (ch:=fp) (I5.os.trans (by rw[hs0])) ⟨λb o e n hb hx=>same _ _ (neC b o e) (un.keep b o e n hb hx),λb o e n hb hx=>?_,λb o e n hx=>by rw[Zh (neD b o e)];exact un.free b o e n hx,λb o e hx=>?_,λb xs e=>?_,λb o u e=>?_,λb ps e=>?_⟩ (λa o e=>?_) I5.bare λb hb=>⟨(f2 b hb).2.2.2.1,(f2 b hb).2.1,(f2 b hb).2.2.2.2.1,(f2 b hb).2.2.2.2.2⟩
   ·obtain⟨sl,z⟩:=un.slot b o e n hb hx
    exact⟨sl,same _ _ (neC b o e) z⟩
   ·obtain⟨o',z⟩:=un.there b o e hx
    exact⟨o',same _ _ (neC b o e) z⟩
   ·rw[Zh (Yk (I2.hok.lt e))];exact un.tups b xs e
   ·rw[Zh (Yk (I2.hok.lt e))];exact un.frzs b o u e
   ·obtain⟨more,z⟩:=un.tbls b ps e
    exact⟨more,by rw[Zh (Yk (I2.hok.lt e))];exact z⟩
   ·by_cases ha:a=s2.heap.objs.size
    ·subst ha
     rw[Zc]at e;cases e
     exact⟨hl,its,nn,va,same _ _ hDC hpin.1⟩
    ·rw[Zh ha]at e
     have q:=I5.hok a o e
     rw[hXp,hXw]at q
     refine q.ZgD (λb u hb z=>same b u ?_ z) (λb z=>by rw[Zh];exact z;intro y;subst y;rw[hpin.2.1]at z;cases z) (λb xs z=>by rw[Zh];exact z;intro y;subst y;rw[hpin.2.1]at z;cases z) λb o u z=>by rw[Zh];exact z;intro y;subst y;rw[hpin.2.1]at z;cases z
     rcases hb with hb|hb
     ·subst hb;exact trkC _ _ e
     ·exact trkC _ _ hb
  ·have q:=T.item Xc hXp hXw hXk hXcalm i _ s3 (iniC js σ) H3 (λ_ _=>False) I3 (fpok pg fr3) st3 go
   rw[hXA]at q
   refine thn q λr s4 ⟨u,hr,h4⟩=>?_
   subst hr
   refine thn h4 λ_ s5 ⟨x,H5,I5,r5,y5,st5,fr5⟩=>?_
   have I5':=I5.pinned (fpok pg fr5) (T.obj _ _ st5)
   have again:∀{σ7:St}{H7:Hp}{s7:Shared}{acc7:List V}{its7:List Value}{n7:Nat}{m:Nat},Inv Xc ([(s2.heap.objs.size,{cls:=.type "list",dict:=none,data:=.seq its7.toArray n7})]++Zea fp s5.heap) σ7 H7 s7->Vals acc7 its7->acc7.length<=sizeLine->W (i+1) m acc7 H7->σ7.length=(iniC js σ).length->(∀(k:Nat) v,(iniC js σ)[k]?=some (some v)->σ7[k]?=some (some v)) ->
     ∃i acc its nn H',Inv Xc [(s2.heap.objs.size,{cls:=.type "list",dict:=none,data:=.seq (its:List Value).toArray nn})] (iniC js σ) H' s7/\Vals acc its/\acc.length<=sizeLine/\tn i s7.heap/\(∀b∈fp,H' b=none)/\W i m acc H':=λ{σ7 H7 s7 acc7 its7 n7 m} I7 v7 l7 w7 hl7 hw7=>by
    refine⟨i+1,acc7,its7,n7,H7,(I7.weak hl7.symm hw7).Zeb,v7,l7,T.keep _ _ _ st5 λb hb o e=>(I7.pin (b,o) (Yv _ (Yv _ (Zdt hb e)))).1,λb hb=>?_,w7⟩
    obtain⟨o,e,d⟩:=T.obj _ _ st5 b hb
    exact(I7.pin (b,o) (Yv _ (Yv _ (Zdt hb e)))).2.1
   have keep:∀{σ6:St},ZcW L (iniC js σ) σ6->σ6.length=(iniC js σ).length/\∀(k:Nat) v,(iniC js σ)[k]?=some (some v)->σ6[k]?=some (some v):=λ{σ6} hk=>⟨hk.1,λk v e=>by
    rw[hk.2 k]
    ·exact e
    ·intro z
     have q:=List.all_eq_true.mp hL k z
     simp only[beq_iff_eq]at q
     unfold iniC at e
     rw[YC,q]at e
     cases e⟩
   have q6:=gX _ s5 (iniC js σ) H5 x u _ I5' r5 (ho _ _ _ _ _ (fun σ' H' kk z=>And.intro kk z) (step x H5 y5))
   rw[hXe,hXA,hXp,hXw,hXx]at q6
   refine thn q6 λ_ s6 ⟨σ6,H6,I6,k6,q6⟩=>?_
   obtain⟨kl,kv⟩:=keep k6
   have q7:=tX _ s6 σ6 H6 _ I6 q6
   rw[hXe,hXA,hXp,hXw,hXx]at q7
   refine thn q7 λb s7 ⟨H7,I7,q7⟩=>?_
   cases b with
   |false =>
    obtain⟨m',hm,w7⟩:=q7
    exact⟨m',hm,again I7 va hlen w7 kl kv⟩
   |true =>
    have q8:=eX _ s7 σ6 H7 _ I7 q7
    rw[hXe,hXA,hXp,hXw,hXx]at q8
    refine thn q8 λy s8 ⟨v8,H8,I8,r8,m',hm,w8⟩=>?_
    have pinD:=I8.pin _ (Yv _ (YN _ (.head _)))
    have hnf:∀p∈Zea fp s5.heap,p.1≠s2.heap.objs.size:=λp hp=>by
     obtain⟨z,_⟩:=Zjt hp
     exact Yk (hfl _ z)
    have va':=va.length
    refine call_meets F.slot_list_append ⟨_,pinD.1,rfl⟩ F.entry_list_append (F.args_list_append_2 _ _) (PySem.list_append s2.heap.objs.size its.toArray nn y (by rw[Yo];omega)) ⟨pinD.1,?_⟩
    have e9:=PySem.IsL.update pinD.1 (λa=>a.push y)
    have e9':its.toArray.push y=(its++[y]).toArray:=by simp
    dsimp only at e9
    rw[e9']at e9
    have I8':Inv Xc (Zea fp s5.heap) σ6 H8 s8:=I8.Zbh λp hp=>I8.pin p (Yv _ (Yv _ hp))
    have hXpn:Xc.pn=[]:=by rw[<-hXc];rfl
    have hXs:s2.heap.objs.size∉frs X.stack:=by rw[<-hfs];exact pinD.2.2.2.1
    have I9:=I8'.turned (t':=s8.toks) (it:=s2.heap.objs.size) (h':=s8.heap.update s2.heap.objs.size (Obj.mapSeq λa=>a.push y)) (λb o hb e=>(Heap.get?_update_other s8.heap _ (Ne.symm hb)).trans e) pinD.2.1 pinD.2.2.1
     (.inr (by rw[hs0];exact Yd _)) (λx c e=>by
      rw[hXe]at e
      intro z
      rcases up _ _ e with y|y
      ·obtain⟨v,q⟩:=I2.cell x c y
       exact absurd q.lt (by rw[z];exact YA _)
      ·have:=y.1
       rw[z,hC]at this
       exact absurd this (Nat.not_lt_of_le (YT _))) (λp hp=>by rw[hXpn,List.nil_append]at hp;exact hnf p hp)
    have I10:=I9.Zbh (pins':=[(s2.heap.objs.size,{cls:=.type "list",dict:=none,data:=.seq (its++[y]).toArray _})]++Zea fp s5.heap) λp hp=>by
     rcases YE.mp hp with z|z
     ·simp only[Yl,List.not_mem_nil,or_false]at z
      subst z
      exact⟨e9,pinD.2.1,pinD.2.2.1,pinD.2.2.2.1,by intro v z;cases z⟩
     ·exact I9.pin p (Yv _ z)
    exact⟨m',hm,again I10 (va.append (.cons r8 .nil)) (by rw[YD,List.length_singleton];omega) w8 kl kv⟩
 exact codeAny_compStart_list loop (T.self _ 0 _ _ _ st4 loop)
theorem Zbn {tg elt iter:Expr}{ifs:List Expr}{scope:Scope}{pos:Pos}{wi:TI}{g:TG}{tt:TT}{te:TE} (Nc:List Str) (js:List (Option Nat)) {L:List Nat}
  (hc:X.calm=true) (hok:Zbm X.env.scope scope=true) (htk:takesC X.N Nc scope js 0=true) (hi:PI X tg iter wi)
  (hg:∀cl C s2 H2 fp,PG (ZaO X Nc scope cl C s2 H2 fp) tg g) (ht:∀cl C s2 H2 fp,Znh (ZaO X Nc scope cl C s2 H2 fp) ifs tt) (he:∀cl C s2 H2 fp,PE (ZaO X Nc scope cl C s2 H2 fp) elt te)
  (ho:ZjB g L) (hL:(L.all λk=>js[k]?==some none)=true:=by rfl) (hs:∀x,foldedSetIterable iter X.env x=pure x:=by intro _;rfl):PE X (.ListComp elt [⟨tg,iter,ifs,0⟩] scope pos) (ZmM wi g tt te js):=by
 intro pins s σ H Q I h
 rw[eval_ListComp]
 exact ZjK (use:=none) hc hok htk hi hg ht he hs ho hL I h λD C H' H2 s2 s' xs m I2 hHC e1 e2 hn hI q=>⟨m,hn,λh' hsb=>⟨.ref D,_,hI h' hsb,rfl,q⟩⟩
theorem Zdi {i:Nat}{x:Str}{pos' spos:Pos}{tg elt iter:Expr}{ifs:List Expr}{scope:Scope}{pos:Pos}{wi:TI}{g:TG}{tt:TT}{te:TE} (Nc:List Str) (js:List (Option Nat)) {L:List Nat}
  (hN:X.N.Nodup) (hxi:X.N[i]?=some x) (hx:Loc X.env.scope x)
  (hc:X.calm=true) (hok:Zbm X.env.scope scope=true) (htk:takesC X.N Nc scope js 0=true) (hi:PI X tg iter wi)
  (hg:∀cl C s2 H2 fp,PG (ZaO X Nc scope cl C s2 H2 fp) tg g) (ht:∀cl C s2 H2 fp,Znh (ZaO X Nc scope cl C s2 H2 fp) ifs tt) (he:∀cl C s2 H2 fp,PE (ZaO X Nc scope cl C s2 H2 fp) elt te)
  (ho:ZjB g L) (hL:(L.all λk=>js[k]?==some none)=true:=by rfl) (hs:∀x,foldedSetIterable iter X.env x=pure x:=by intro _;rfl)
  (hsw:swapsWith (.ListComp elt [⟨tg,iter,ifs,0⟩] scope pos) (some (.Name x pos')) spos.line X.env=pure true:=by rfl)
  (hf:X.fn x=true\/X.env.scope.names.lookup x=some .local:=by first|exact .inl rfl|exact .inr rfl|assumption) :
  PS X (.Assign [.Name x pos'] (.ListComp elt [⟨tg,iter,ifs,0⟩] scope pos) spos) (tAsg (ZmM wi g tt te js) (gName i)):=by
 intro pins s σ H D I h
 rw[exec_Assign_Name_used _ _ _ _ hsw]
 refine Ya (wpAny_standAt (Ya ?_))
 show wpAny _ _ (comprehension _ _ _ _ _ _ _ _ >>= _) _ _ _
 refine Ya (thn (Q:=λ_ s'=>∃σ' H',Inv X pins σ' H' s'/\D.nx σ' H') (ZjK (Q:=λv H1=>gName i v σ H1 D.nx) (use:=some (assign (.Name x pos') X.env)) hc hok htk hi hg ht he hs ho hL I h ?_) λ_ s' ⟨σ',H',I',q⟩=>Ye (Ye ⟨σ',H',I',q⟩))
 intro D' C H' H2 s2 s' xs m I2 hHC e1 e2 hn hI q
 obtain⟨oC,es,ep,hoC,hdC,hrest⟩:=id hn
 have leC:s2.heap.objs.size<=C:=by rw[e1,e2];exact YT _
 have ltC:s2.heap.objs.size<C:=by rw[e1,e2];exact Nat.lt_succ_self _
 have neDC:C≠D':=by rw[e2];exact Nat.ne_of_gt ltC
 have fresh:s2.heap.get? C=none:=by
  cases e:s2.heap.get? C with
  |none=>rfl
  |some o=>exact absurd (Ys (Yj e) leC) (YA _)
 have neL:C≠X.env.locals:=Nat.ne_of_gt (Ys I2.lt leC)
 have nfs:C∉X.fs:=I2.nofs leC
 have ncl:∀x c,X.env.cells.lookup x=some c->c≠C:=λx c e z=>by
  obtain⟨v,q⟩:=I2.cell x c e
  exact absurd (Ys q.lt leC) (by rw[z];exact YA _)
 have npn:∀p∈X.pn++pins,p.1≠C:=λp hp z=>by
  have:=(I2.pin p hp).1
  rw[z,fresh]at this;cases this
 have hH:(upd H' D' (HO.lst xs)) C=none:=by rw[Zh neDC];exact hHC
 have I0:=hI s'.heap Zj6
 have I1:Inv X (pins++[(C,oC)]) σ (upd H' D' (.lst xs)) s':=I0.Zbh λp hp=>by
  rcases YE.mp hp with z|z
  ·exact I0.pin p (Yv _ z)
  ·simp only[Yl,List.not_mem_nil,or_false]at z
   subst z
   exact⟨hoC,hH,neL,nfs,λv z=>by rw[hdC]at z;cases z⟩
 show wpAny _ _ _ _ _ _
 refine thn (Zv (X:=X) (i:=i) hN hxi hx hf (pins++[(C,oC)]) s' σ _ (.ref D') (.ref D') _ I1 rfl q) λ_ s3 ⟨σ3,H3,I3,q3⟩=>?_
 have pC:=I3.pin (C,oC) (Yv _ (Yv _ (.head _)))
 refine⟨m,⟨oC,es,ep,pC.1,hdC,hrest⟩,λh' hsb=>⟨σ3,H3,?_,q3⟩⟩
 exact I3.Zeb.turned (t':=s3.toks) (it:=C) (λb o hb e=>hsb.extBut b o hb e) pC.2.1 neL (.inr (Yf I2.sz leC)) ncl npn
end
end L2
namespace L2
open PySem PySem.Spec PyProof.Rows PySem.W
noncomputable def CF (n:Nat) (P:Nat->Bool) (vals:Nat->V) (H1:Hp) (i m:Nat) (acc:List V) (H:Hp):Prop:=m=n-i/\i<=n/\acc=((List.range i).filter P).map vals/\Zg H1 H
theorem CF.take {n:Nat}{P:Nat->Bool}{vals:Nat->V}{H1 H:Hp}{i:Nat}{v:V} (hi:i<n) (hP:P i=true) (hv:v=vals i) (s:Zg H1 H):∃m',m'<n-i/\CF n P vals H1 (i+1) m' (((List.range i).filter P).map vals++[v]) H :=
 ⟨n-(i+1),by omega,rfl,hi,by rw[YQ,List.filter_append,YV,hv];simp[hP],s⟩
theorem CF.skip {n:Nat}{P:Nat->Bool}{vals:Nat->V}{H1 H:Hp}{i:Nat} (hi:i<n) (hP:P i=false) (s:Zg H1 H):∃m',m'<n-i/\CF n P vals H1 (i+1) m' (((List.range i).filter P).map vals) H :=
 ⟨n-(i+1),by omega,rfl,hi,by rw[YQ,List.filter_append,YV];simp[hP],s⟩
theorem ZgO {J:It}{n:Nat}{H1:Hp}{g:TG}{tt:TT}{te:TE}{σ0:St}{Q:VK} (P:Nat->Bool) (vals:Nat->V) (hn:n<sizeLine) (hgo:∀i H,Zg H1 H->i<n->J.go i H) (hstop:∀H,Zg H1 H->J.stop n H)
  (hb:∀i x H H',i<n->Zg H1 H->J.yld i H x H'->g x σ0 H' fun σ2 H2=>tt σ2 H2 λb H3=>if b=true then te σ2 H3 λv H4=>∃m',m'<n-i/\CF n P vals H1 (i+1) m' (((List.range i).filter P).map vals++[v]) H4 else ∃m',m'<n-i/\CF n P vals H1 (i+1) m' (((List.range i).filter P).map vals) H3)
  (hk:∀l H',Zg H1 H'->H' l=none->Q (.ref l) (upd H' l (.lst (((List.range n).filter P).map vals)))) :
  Zga J g tt te σ0 Q H1:=by
 refine⟨CF n P vals H1,⟨n,rfl,Yn _,rfl,Zg.refl _⟩,?_⟩
 rintro i m acc H ⟨rfl,hi,rfl,s⟩
 have hlen:(((List.range i).filter P).map vals).length<=n:=by
  rw[Yh]
  have:=Y9 P (List.range i)
  rw[YZ]at this
  omega
 by_cases h:i<n
 ·exact .inr ⟨hgo i H s h,by omega,λx H' y=>hb i x H H' h s y⟩
 ·have:i=n:=by omega
  subst this
  exact .inl ⟨hstop H s,by omega,λp hp=>hk p H s hp⟩
theorem Zpk {ns T:List Int}{g:Nat->Int} (hT:Zl ns T) (hg:∀q p,q<ns.length->p<ns.length->Over (nth ns) q p->(q<p->g q<=g p)/\(p<q->g q<g p)):∀p,p<ns.length->ZI g ns.length p (T.getD p 0):=by
 intro p hp
 have pv:∀q,Z5 (nth ns) p q->Z5 g p q:=λq h=>by
  refine⟨h.1,(hg q p (by have:=h.1;omega) hp (.inl ⟨h.1,λr r1 r2=>?_⟩)).1 h.1,λr r1 r2=>(hg p r hp (by omega) (.inr ⟨r2,λs s1 s2=>h.2.2 s (by omega) s2⟩)).2 r2⟩
  by_cases z:r=p
  ·rw[z];exact h.2.1
  ·have:=h.2.2 r r1 (by omega);have:=h.2.1;omega
 have nx:∀r,Z3 (nth ns) ns.length p r->Z3 g ns.length p r:=λq h=>by
  refine⟨h.1,h.2.1,(hg q p h.2.1 hp (.inr ⟨h.1,λr r1 r2=>?_⟩)).2 h.1,λs s1 s2=>(hg p s hp (by have:=h.2.1;omega) (.inl ⟨s1,λr r1 r2=>h.2.2.2 r r1 (by omega)⟩)).1 s1⟩
  by_cases z:r=p
  ·rw[z];exact h.2.2.1
  ·have:=h.2.2.2 r (by omega) r2;have:=h.2.2.1;omega
 have np:ZbW (nth ns) p->ZbW g p:=λh q hq=>(hg p q hp (by omega) (.inr ⟨hq,λr r1 r2=>h r r2⟩)).2 hq
 have nn:Zbl (nth ns) ns.length p->Zbl g ns.length p:=λh r r1 r2=>(hg p r hp r2 (.inl ⟨r1,λs s1 s2=>h s s1 (by omega)⟩)).1 r1
 have hE:ZI (nth ns) ns.length p (T.getD p 0):=hT.2 p hp
 rcases hE with⟨h1,h2,h⟩|⟨q,h1,h2,h⟩|⟨r,h1,h2,h⟩|⟨q,r,h1,h2,h⟩
 ·exact .inl ⟨np h1,nn h2,h⟩
 ·exact .inr (.inl ⟨q,pv q h1,nn h2,h⟩)
 ·exact .inr (.inr (.inl ⟨r,np h1,nx r h2,h⟩))
 ·refine .inr (.inr (.inr ⟨q,r,pv q h1,nx r h2,?_⟩))
  rw[h]
  have hq:q<ns.length:=by have:=h1.1;omega
  have hqr:q<r:=by have:=h1.1;have:=h2.1;omega
  by_cases z:nth ns q<=nth ns r
  ·have:=(hg q r hq h2.2.1 (.inl ⟨hqr,λs s1 s2=>by
    by_cases y:s=r
    ·rw[y];exact z
    ·by_cases y2:s=p
     ·rw[y2];exact h1.2.1
     ·have:=h1.2.1
      by_cases y3:s<p
      ·have:=h1.2.2 s s1 y3;omega
      ·have:=h2.2.2.2 s (by omega) (by omega);omega⟩)).1 hqr
   rw[Yc z,Yc (by omega)]
  ·have:=(hg r q h2.2.1 hq (.inr ⟨hqr,λs s1 s2=>by
    have:=h1.2.1;have:=h2.2.2.1
    by_cases y:s=q
    ·rw[y];omega
    ·by_cases y2:s=p
     ·rw[y2];omega
     ·by_cases y3:s<p
      ·have:=h1.2.2 s (by omega) y3;omega
      ·have:=h2.2.2.2 s (by omega) (by omega);omega⟩)).2 hqr
   rw[Yb z,Yb (by omega)]
theorem ZmV {ns T:List Int} (hT:Zl ns T) {p o:Nat} (hp:p<ns.length):(o:Int)∈wayI T p↔o<ns.length/\Over (nth ns) o p:=by
 rw[<-(Zeh hT T.length p hp (by rw[hT.1];exact YI (Zij hp))).1 o]
 unfold wayI
 rw[YH]
 refine⟨λ⟨q,hq,e⟩=>?_,λh=>⟨o,h,rfl⟩⟩
 have:q=o:=by omega
 rw[<-this];exact hq
end L2
namespace HT
open PySem PyProof.Rows
section
open PySem.SeqAt
open PySem.AutoSeq1 (wpAny_loadPart')
open PySem.MeetsSeq PySem.MeetsSeq2 PySem.MeetsSeq3
variable {prog:Program}{w:World}{A:Around}{E:Value->Shared->Prop}{s:Shared}
end
end HT
namespace L2
open PySem PySem.Spec PyProof.Rows PySem.W
section
variable {X:Cx}{tg l:Expr}{tl:TE}
theorem Zpl {K:Frag} (hK:X.K=K) (hl:PE X l tl):PI X tg l (iList K tl):=hK▸Zds hl
end
theorem Zk8 (T:List Int):∀k a,(Z9 T k a).length<k->Z9 T (k+1) a=Z9 T k a
 |0,_,h=>by omega
 |k+1,a,h=>by
  rw[Z9]at h⊢
  by_cases z:0<=a/\a<T.length
  ·rw[Yc z]at h⊢
   rw[Zk8 T k _ (by simpa using h),Z9,Yc z]
  ·rw[Yb z]at h⊢
   rw[Z9,Yb z]
noncomputable def way (T:List Int) (p:Nat):List Nat:=Z9 T T.length (nth T p)
theorem Zrr {T:List Int}{p:Nat} (h:nth T p=-1):way T p=[]:=by
 unfold way
 rw[h]
 cases T.length with
 |zero=>rfl
 |succ k=>rw[Z9,Yb (by omega)]
theorem ZaG {ns T:List Int} (hT:Zl ns T) {p q:Nat} (hp:p<ns.length) (h:nth T p=q):way T p=q::way T q:=by
 have hE:ZI (nth ns) ns.length p (q:Int):=h▸hT.2 p hp
 have hq:q<ns.length:=by
  rcases Zcm hp hE with z|⟨q',e,z,_⟩<;>omega
 have hd:=ZgM hp hE
 have hl:=Zij (f:=nth ns) hp
 unfold way
 rw[h,hT.1]
 obtain⟨k,hk⟩:∃k,ns.length=k+1:=⟨ns.length-1,by omega⟩
 rw[hk,Z9,Yc ⟨by omega,by rw[hT.1];omega⟩,show((q:Nat):Int).toNat=q by omega]
 rw[Zk8 T k (nth T q)]
 rw[(Zeh hT k q hq (by omega)).2]
 omega
theorem Zej (T:List Int) (p:Nat):wayI T p=(way T p).map λq=>((q:Nat):Int):=rfl
theorem ZbO {ns T:List Int} (hT:Zl ns T) {p:Nat} (hp:p<ns.length):nth T p=-1\/∃q:Nat,nth T p=q/\q<ns.length/\Over (nth ns) q p/\dep (nth ns) ns.length p=dep (nth ns) ns.length q+1:=by
 rcases Zcm hp (hT.2 p hp)with z|⟨q,e,hq,hO⟩
 ·exact .inl z
 ·have e':nth T p=(q:Int):=e
  have hE:ZI (nth ns) ns.length p (q:Int):=e'▸hT.2 p hp
  exact .inr ⟨q,e,hq,hO,ZgM hp hE⟩
noncomputable def ZbP (T:List Int) (p:Nat):Nat:=((way T p).filter λo=>decide (p<o)).length
noncomputable def Zgh (T:List Int):List Int:=(List.range T.length).map λp=>(ZbP T p:Int)
theorem ZgP (T:List Int):(Zgh T).length=T.length:=by simp[Zgh]
theorem ZjL {T:List Int}{p:Nat} (h:p<T.length):nth (Zgh T) p=ZbP T p:=by simp[nth,Zgh,Yr,h]
theorem Zdj {P Q:Nat->Bool}{l:List Nat} (h:∀x∈l,P x=Q x):(l.filter P).length=(l.filter Q).length:=by
 rw[List.filter_congr h]
theorem Zbo {ns T:List Int} (hT:Zl ns T) {p o:Nat} (hp:p<ns.length):o∈way T p↔o<ns.length/\Over (nth ns) o p:=by
 unfold way
 rw[hT.1]
 exact(Zeh hT ns.length p hp (YI (Zij hp))).1 o
theorem Znv {f:Nat->Int}{o q p:Nat} (h:Over f o q) (k:Over f q p):(p<q->p<o->q<o)/\(q<p->q<o->p<o):=by
 refine⟨λh1 h2=>Nat.lt_of_not_le λz=>?_,λh1 h2=>Nat.lt_of_not_le λz=>?_⟩
 ·rcases h with⟨a,b⟩|⟨a,b⟩
  ·rcases k with⟨c,d⟩|⟨c,d⟩
   ·omega
   ·have:=d o (by omega) a;have:=b q a (Yd _);omega
  ·omega
 ·rcases h with⟨a,b⟩|⟨a,b⟩
  ·omega
  ·rcases k with⟨c,d⟩|⟨c,d⟩
   ·have:=d o h2 z;have:=b q (Yd _) a;omega
   ·omega
theorem Znw {ns T:List Int} (hT:Zl ns T) {p q:Nat} (hp:p<ns.length) (hq:q<ns.length) (h:nth T p=q) (hO:Over (nth ns) q p):ZbP T p=ZbP T q+if p<q then 1 else 0:=by
 unfold ZbP
 rw[ZaG hT hp h,List.filter_cons]
 have e:((way T q).filter λo=>decide (p<o)).length=((way T q).filter λo=>decide (q<o)).length:=by
  refine Zdj λo ho=>?_
  have ho':=((Zbo hT hq).mp ho).2
  have hs:=Znv ho' hO
  have hne:=hO.ne
  have hne2:=ho'.ne
  rw[Bool.eq_iff_iff,decide_eq_true_eq,decide_eq_true_eq]
  rcases Nat.lt_or_gt_of_ne hne with z|z
  ·exact⟨λy=>by omega,λy=>hs.2 z y⟩
  ·exact⟨λy=>hs.1 z y,λy=>by omega⟩
 by_cases z:p<q
 ·rw[Yc (by simpa using z),Yc z,Yq,e]
 ·rw[Yb (by simpa using z),Yb z,e,Nat.add_zero]
theorem Zpm {ns T:List Int} (hT:Zl ns T) {R:Nat->Nat->Prop} (h1:∀p q,p<ns.length->q<ns.length->nth T p=q->Over (nth ns) q p->R q p) (h2:∀o q p,Over (nth ns) o q->Over (nth ns) q p->R o q->R q p->R o p) :
  ∀d p o,p<ns.length->o<ns.length->dep (nth ns) ns.length p=d->Over (nth ns) o p->R o p:=by
 intro d
 induction d with
 |zero =>
  intro p o hp ho hd hO
  rcases ZbO hT hp with z|⟨q,e,hq,hOq,hdq⟩
  ·exact absurd hO (Zfl hp ho (z▸hT.2 p hp))
  ·omega
 |succ d ih =>
  intro p o hp ho hd hO
  rcases ZbO hT hp with z|⟨q,e,hq,hOq,hdq⟩
  ·exact absurd hO (Zfl hp ho (z▸hT.2 p hp))
  ·rcases(Zih hp ho (show ZI (nth ns) ns.length p (q:Int)from(show T.getD p 0=(q:Int)from e)▸hT.2 p hp)).mp hO with y|y
   ·rw[y];exact h1 p q hp hq e hOq
   ·exact h2 o q p y hOq (ih q o hq ho (by omega) y) (h1 p q hp hq e hOq)
theorem Znx {ns T:List Int} (hT:Zl ns T) {p o:Nat} (hp:p<ns.length) (ho:o<ns.length) (hO:Over (nth ns) o p):ZbP T o<=ZbP T p/\(p<o->ZbP T o<ZbP T p):=by
 refine Zpm hT (R:=λo p=>ZbP T o<=ZbP T p/\(p<o->ZbP T o<ZbP T p)) (λp q hp hq e hO=>?_) (λo q p h1 h2 r1 r2=>?_) _ p o hp ho rfl hO
 ·have:=Znw hT hp hq e hO
  refine⟨by omega,λz=>?_⟩
  rw[Yc z]at this;omega
 ·refine⟨Yf r1.1 r2.1,λz=>?_⟩
  by_cases y:p<q
  ·have:=r2.2 y;have:=r1.1;omega
  ·have hne:=h2.ne
   have:=r1.2 (by omega);have:=r2.1;omega
theorem Zny {ns T:List Int} (hT:Zl ns T):Zl (Zgh T) T:=by
 have eT:T.length=ns.length:=hT.1
 refine⟨by rw[ZgP],λp hp=>?_⟩
 rw[ZgP,eT]at hp⊢
 refine Zpk hT (λq p hq hp hO=>?_) p hp
 have:=Znx hT hp hq hO
 rw[ZjL (by omega),ZjL (by omega)]
 exact⟨λ_=>by omega,λz=>by have:=this.2 z;omega⟩
section
variable {X:Cx}{pins:List (Addr×Obj)}{σ:St}{H:Hp}{s:Shared}{h':Heap}
theorem Inv.Zkf {t':Nat}{fp:List Addr}{T:Addr}{o:HO} (I:Inv X pins σ H s) (k:∀b u,b∉fp->s.heap.get? b=some u->h'.get? b=some u) (hf:∀b∈fp,FpOk X pins H b) (hT:s.heap.objs.size<=T) (new:ZS X.prog X.w (upd H T o) h' T o) :
  Inv X pins σ (upd H T o) {s with heap:=h',toks:=t'}:=by
 have nit:∀b u,H b=some u->b∉fp:=λb u e z=>by rw[(hf b z).1]at e;cases e
 have hfr:H T=none:=I.hok.fresh hT
 have neT:∀b u,s.heap.get? b=some u->b≠T:=λb u e z=>absurd (Yj e) (by rw[z];exact Nat.not_lt_of_le hT)
 have neH:∀b u,H b=some u->b≠T:=λb u e z=>by rw[z,hfr]at e;cases e
 refine I.step (g':=s.gens) (d':=s.drawn) (ch:=fp) (λb hb=>?_) (λb o _ _ hc e _=>k b o hc e) (λb o _ _ hc e _=>⟨o.slots,k b o hc e⟩) (λb u _ e n=>by rw[Zh (neT b u e)];exact n)
  (λb o hc e=>⟨o,k b o hc e⟩) (λb xs e=>by rw[Zh (neH b _ e)];exact e) (λb o u e=>by rw[Zh (neH b _ e)];exact e) (λb ps e=>⟨#[],by rw[Zh (neH b _ e),e];simp⟩) (λm hm=>?_) (λb u e=>?_) I.bare
 ·obtain⟨_,f1,_,f3,f4,f5⟩:=hf b hb
  exact⟨f3,f1,f4,f5⟩
 ·obtain⟨o,es,ep,ho,r⟩:=hm
  exact⟨o,es,ep,k _ o (λz=>(hf _ z).2.1 rfl) ho,r⟩
 ·by_cases z:b=T
  ·subst z
   rw[Zc]at e;cases e
   exact new
  ·rw[Zh z]at e
   refine(I.hok b u e).ZgD (λc v hc q=>k c v ?_ q) (λc q=>?_) (λc xs q=>?_) λc o u q=>?_
   ·rcases hc with y|y
    ·rw[y];exact nit b u e
    ·exact nit c _ y
   ·rw[Zh (neH _ _ q)];exact q
   ·rw[Zh (neH _ _ q)];exact q
   ·rw[Zh (neH _ _ q)];exact q
noncomputable def Ite (K : Frag) (a : Addr) : It :=
  ⟨fun i H => ∃ xs x, SqL K H a xs ∧ xs[i]? = some x,
   fun i H v H' => ∃ p x, H p = none ∧ v = .ref p ∧ H' = upd H p (.tup [.int (i : Int), x]) ∧ ∀ xs, SqL K H a xs → xs[i]? = some x,
   fun i H => ∃ xs, SqL K H a xs ∧ xs.length = i⟩
theorem ZjM {P:Program}{w:World}{K:Frag}{elts:List Expr} {x1}{pos:Pos}{a e it:Addr} (h1:e≠it) (h2:a≠e) (h3:a≠it) :
  Turn P w K (.Tuple elts x1 pos) (Ite K a) [e,it] e (λi h=>(∃old,IsEnum h e it (i:Int) old)/\h.IsListIter it a i) where
 mem:=by simp
 obj:=λi h st c hc=>by
  obtain⟨⟨old,q1⟩,⟨o4,q4,_,d4⟩⟩:=st
  simp at hc
  rcases hc with rfl|rfl
  ·exact⟨_,q1,λv z=>by cases z⟩
  ·exact⟨_,q4,λv z=>by rw[d4]at z;cases z⟩
 keep:=λi h h' st k=>by
  obtain⟨⟨old,q1⟩,q4⟩:=st
  exact⟨⟨old,k e (by simp) _ q1⟩,q4.at λo z=>k it (by simp) o z⟩
 item:=by
  intro X hP hw hK hc i pins s σ H E I hf st hg
  subst hP hw hK
  obtain⟨xs,x,qa,hx⟩:=hg
  obtain⟨is1,r1,p1,hz1⟩:=I.list qa
  obtain⟨u,hu,ru⟩:=r1.get hx
  have W:=WalksT.enumerate (prog:=X.prog) (w:=X.w) (I.ok.hd hc) e it a h1 h2 h3 is1.toArray
  have hi:i<is1.toArray.size:=by
   have:=(Yp.mp hu).1
   simpa using this
  refine W.item i s _ E hi ⟨st.1,st.2,p1.isList⟩ λT vals h' tk Pt hT hTup Mid keep=>⟨_,rfl,W.go elts x1 pos i T _ _ E Mid λh2' St2 keep2=>?_⟩
  obtain⟨t,y,hy,rfl⟩:=Pt
  have hyu:y=u:=by
   have:is1[i]?=some y:=by simpa using hy
   rw[hu]at this;exact(Yy this).symm
  subst hyu
  have nT:=W.apart i T h' Mid
  have hfr:H T=none:=I.hok.fresh hT
  have kk:∀b o,b∉[e,it]->s.heap.get? b=some o->h2'.get? b=some o:=λb o hb q=>keep2 b o hb (keep b o hb q)
  have nTe:∀c∈[e,it],c≠T:=λc hc z=>nT (z▸hc)
  refine⟨.ref T,_,Inv.Zkf (s:=s) (t':=tk) (o:=.tup [.int (i:Int),x]) I kk hf hT ?_,rfl,⟨T,x,hfr,rfl,rfl,λxs' q'=>?_⟩,⟨?_,St2.2.1⟩,λc hc=>?_⟩
  ·obtain⟨oT,q1,q2,n,q3⟩:=hTup
   exact⟨by show 2<=sizeLine;decide,[.int (i:Int) t,y],.cons ⟨t,rfl⟩ (.cons ru .nil),⟨oT,keep2 T oT nT q1,q2,n,q3⟩⟩
  ·rw[I.Zde q' qa];exact hx
  ·obtain⟨old,q⟩:=St2.1
   exact⟨old,by rw[show(((i+1:Nat)):Int)=(i:Int)+1 by omega]at *;exact q⟩
  ·rw[Zh (nTe c hc)];exact(hf c hc).1
 done:=by
  intro X hP hw hK hc i pins s σ H E I hf st hg
  subst hP hw hK
  obtain⟨xs,qa,hx⟩:=hg
  obtain⟨is1,r1,p1,_⟩:=I.list qa
  have W:=WalksT.enumerate (prog:=X.prog) (w:=X.w) (I.ok.hd hc) e it a h1 h2 h3 is1.toArray
  have hi:i=is1.toArray.size:=by
   have:=r1.length
   simp;omega
  refine W.done s _ E ?_ λh' tk keep=>⟨rfl,I.Zj9 (t':=tk) (fp:=[e,it]) (λc o hc q=>keep c o hc q) hf⟩
  rw[<-hi]
  exact⟨st.1,st.2,p1.isList⟩
 self:=λA i s Q E st h=>by
  obtain⟨⟨old,q⟩,_⟩:=st
  exact wpAny_pyIter_enum q h
noncomputable def iEnum (K:Frag) (ta:TA):TI:=fun σ H R=>ta σ H λvs H1=>∃a xs,vs=[.ref a]/\SqL K H1 a xs/\R (Ite K a) H1
theorem ZdB:bootBuiltins "enumerate"=some (.type "enumerate"):=by decide +kernel
theorem Zrs {K:Frag}{elts:List Expr} {x1}{tp:Pos}{e1:Expr}{ta:TA}{p pos:Pos} (hK:X.K=K) (hg:Gl X "enumerate") (hm:X.mg "enumerate"=none) (ha:PA X [e1] ta) (hs:starEach [e1] X.env=[(false,eval e1 X.env)]:=by rfl) :
  PI X (.Tuple elts x1 tp) (.Call (.Name "enumerate" p) [e1] [] pos) (iEnum K ta):=by
 subst hK
 intro pins s σ H R I h
 refine wpAny_Call_Name_kw (ZaW I hg hm ZdB ?_)
 refine PyProof.Rows.callWith_type1 (thn (ha pos pins s σ H _ I h) λus s1 ⟨vs,H1,I1,r1,a,xs,e1,qa,q⟩=>?_) hs rfl
 subst e1
 obtain⟨u,rfl,ru⟩:=r1.one
 cases(show u=Value.ref a from ru)
 obtain⟨is1,rr1,p1,_⟩:=I1.list qa
 refine call_enumerate_list p1.isList λh' c1 c2 c3 c4=>?_
 have l1:a<s1.heap.objs.size:=by obtain⟨o,e,_⟩:=p1.isList;exact Yj e
 have sm:∀b,s1.heap.objs.size<=b->FpOk X pins H1 b:=λb hb=>I1.Zh4 hb (I1.hok.fresh hb)
 have n1:s1.heap.objs.size+1≠s1.heap.objs.size:=by show ¬ ((_:Nat)=_);omega
 have n2:a≠s1.heap.objs.size+1:=Yk (YG l1)
 have n3:a≠s1.heap.objs.size:=Yk l1
 have T:=ZjM (P:=X.prog) (w:=X.w) (K:=X.K) (elts:=elts) (x1:=x1) (pos:=tp) n1 n2 n3
 refine T.self _ 0 _ _ _ ⟨⟨_,c1⟩,c2⟩ ?_
 refine⟨_,[s1.heap.objs.size+1,s1.heap.objs.size],_,_,H1,rfl,I1.kept (t':=s1.toks) c4,T,⟨⟨_,c1⟩,c2⟩,λc hc=>?_,q⟩
 simp at hc
 rcases hc with rfl|rfl<;>exact sm _ (by omega)
end
theorem Znz {prog:Program}{w:World}{A:Around}{R:Result->Shared->Prop}{I:Addr}{fp wr:List Addr}{n:Nat}{P:Nat->Value->Prop}{St:Nat->Heap->Prop} (W:Walks prog w A.in1 I fp wr n P St) (bt:Nat->Nat->Bool) (hc:CmpOf prog w A.in1 .Gt P bt)
  (S:Addr) (hS:S∉fp) (dk:Str) (d:Value) (h0:Heap) (s0:Shared)
  (hR0:n=0->∀h' tk,(∀b o,b∉wr->b≠S->h0.get? b=some o->h'.get? b=some o)->R (.ok (.ret d)) {s0 with heap:=h',toks:=tk})
  (hR:0<n->∀v h' tk,P (argBest bt (n-1)) v->(∀b o,b∉wr->b≠S->h0.get? b=some o->h'.get? b=some o)->R (.ok (.ret v)) {s0 with heap:=h',toks:=tk}) :
  ∀(k j:Nat) (h:Heap) (tk:Nat),n-j=k->j<=n->St j h->(∀b o,b∉wr->b≠S->h0.get? b=some o->h.get? b=some o) ->
   ((j=0/\∃c,h.get? S=some {cls:=.type "list",data:=.seq #[] c})\/(0<j/\∃vb c,P (argBest bt (j-1)) vb/\h.get? S=some {cls:=.type "list",data:=.seq #[vb,vb] c})) ->
   codeAny (model prog w) A (.builtin "max.loop" {pos:=[.ref I,.none,.ref S],kw:=[(dk,d)]}) R {s0 with heap:=h,toks:=tk}:=by
 intro k
 induction k with
 |zero =>
  intro j h tk hk hj hst keep hb
  refine codeAny_builtin F.entry_max_loop ?_
  have hjn:j=n:=by omega
  subst hjn
  rcases hb with⟨hj0,c,hb⟩|⟨hj0,vb,c,hvb,hb⟩
  ·show wpAny _ _ (_ >>= _) _ _ _
   refine Ya (wpAny_seqItems hb rfl ?_)
   refine Ya (wpAny_tryCatch (W.done _ _ _ hst λh' tk' kp=>?_))
   refine Ya (wpAny_rule (Ye ?_))
   exact hR0 hj0 h' tk' λb o hb1 hb2 e=>kp b o hb1 (keep b o hb1 hb2 e)
  ·show wpAny _ _ (_ >>= _) _ _ _
   refine Ya (wpAny_seqItems hb rfl ?_)
   refine Ya (wpAny_tryCatch (W.done _ _ _ hst λh' tk' kp=>?_))
   have hS':S∉wr:=λz=>hS (W.sub S z)
   have hb':=kp S _ hS' hb
   refine Ya (wpAny_updateSeq hb' rfl ?_ (show 2<=sizeLine by decide) (Yn _))
   refine Ya (wpAny_letGo (Ye ?_))
   refine hR hj0 vb _ tk' hvb λb o hb1 hb2 e=>?_
   exact(Heap.get?_update_other _ _ (Ne.symm hb2)).trans (kp b o hb1 (keep b o hb1 hb2 e))
 |succ k ih =>
  intro j h tk hk hj hst keep hb
  refine codeAny_builtin F.entry_max_loop ?_
  have hjn:j<n:=by omega
  have hS':S∉wr:=λz=>hS (W.sub S z)
  rcases hb with⟨hj0,c,hb⟩|⟨hj0,vb,c,hvb,hb⟩
  ·show wpAny _ _ (_ >>= _) _ _ _
   refine Ya (wpAny_seqItems hb rfl ?_)
   refine Ya (wpAny_tryCatch (W.item j _ _ _ hjn hst λv h' tk' hv hst' kp=>?_))
   have hb':=kp S _ hS' hb
   refine Ya (Ye ?_)
   refine Ya (wpAny_updateSeq hb' rfl ?_ (Yn _) (show 2<=sizeLine+1 by decide))
   refine Ye ⟨rfl,?_⟩
   have e9:=PySem.IsL.update hb' (λ_=>#[v,v])
   refine ih (j+1) _ tk' (by omega) (by omega) (W.frame _ _ _ hst' λb hb1 o e=>?_) (λb o hb1 hb2 e=>?_) (.inr ⟨by omega,v,_,?_,e9⟩)
   ·exact(Heap.get?_update_other _ _ (show S≠b from λz=>hS (by rw[z];exact hb1))).trans e
   ·exact(Heap.get?_update_other _ _ (Ne.symm hb2)).trans (kp b o hb1 (keep b o hb1 hb2 e))
   ·rw[hj0];rw[hj0]at hv;exact hv
  ·show wpAny _ _ (_ >>= _) _ _ _
   refine Ya (wpAny_seqItems hb rfl ?_)
   refine Ya (wpAny_tryCatch (W.item j _ _ _ hjn hst λv h' tk' hv hst' kp=>?_))
   have hb':=kp S _ hS' hb
   obtain⟨j',rfl⟩:∃j',j=j'+1:=⟨j-1,by omega⟩
   have hvb':P (argBest bt j') vb:=hvb
   have eA:argBest bt (j'+1)=if bt (j'+1) (argBest bt j')=true then j'+1 else argBest bt j':=rfl
   refine Ya (Ye ?_)
   refine Ya (wpAny_tryCatch (wpAny_holding (Ya (hc (j'+1) (argBest bt j') v vb _ _ _ hv hvb' (Ya (wpAny_holding (wpAny_truthy_bool (Ya (wpAny_letGo (Ye ?_))))))))))
   by_cases z:bt (j'+1) (argBest bt j')=true
   ·rw[Yc z]
    refine Ya (wpAny_updateSeq hb' rfl ?_ (show 2<=sizeLine by decide) (show 2<=sizeLine+1 by decide))
    refine Ya (wpAny_letGo (Ye ⟨rfl,?_⟩))
    have e9:=PySem.IsL.update hb' (λ_=>#[v,v])
    refine ih (j'+1+1) _ tk' (by omega) (by omega) (W.frame _ _ _ hst' λb hb1 o e=>?_) (λb o hb1 hb2 e=>?_) (.inr ⟨by omega,v,_,?_,e9⟩)
    ·exact(Heap.get?_update_other _ _ (show S≠b from λz=>hS (by rw[z];exact hb1))).trans e
    ·exact(Heap.get?_update_other _ _ (Ne.symm hb2)).trans (kp b o hb1 (keep b o hb1 hb2 e))
    ·show P (argBest bt (j'+1)) v
     rw[eA,Yc z];exact hv
   ·rw[Yb z]
    refine Ya (wpAny_letGo (Ye ⟨rfl,?_⟩))
    refine ih (j'+1+1) _ tk' (by omega) (by omega) hst' (λb o hb1 hb2 e=>kp b o hb1 (keep b o hb1 hb2 e)) (.inr ⟨by omega,vb,_,?_,hb'⟩)
    show P (argBest bt (j'+1)) vb
    rw[eA,Yb z];exact hvb'
theorem ZnA (a d:Value):argsOk "max" {pos:=[a],kw:=[("default",d)]}:=by first|rfl|decide
theorem ZnB {prog:Program}{w:World}{A:Around}{E Q:Value->Shared->Prop}{s:Shared}{l:Addr}{xs:Array (Int×Tok)}{d:Value} (hA:A.handled=none) (hl:s.heap.IsList l (intItems xs))
  (q0:xs.size=0->∀h' tk,(∀b o,s.heap.get? b=some o->h'.get? b=some o)->Q d {s with heap:=h',toks:=tk})
  (q1:0<xs.size->∀v h' tk,(intItems xs)[argBest (λi j=>decide (numAt xs i>numAt xs j)) (xs.size-1)]?=some v->(∀b o,s.heap.get? b=some o->h'.get? b=some o)->Q v {s with heap:=h',toks:=tk}) :
  wpAny (model prog w) A (call (.builtin "max") [.ref l] [("default",d)]) Q E s:=by
 refine wpAny_call (codeAny_call_builtin_code rfl ?_)
 have hck:checkBuiltinCall "max" {pos:=[.ref l],kw:=[("default",d)]}=pure ():=by
  unfold checkBuiltinCall
  rw[F.kind_max]
  exact ZnA (.ref l) d
 rw[hck]
 refine Ye (codeAny_builtin F.entry_max ?_)
 show wpAny _ _ (_ >>= _) _ _ _
 have hbp:Builtin.Builtins.bindParams "max" ["key","default"] 0 {kw:=[("default",d)]}=pure [none,some d]:=by
  first|rfl|with_unfolding_all rfl|(simp[Builtin.Builtins.bindParams];done)
 refine Ya (wpAny_of_eq hbp (Ya (Ye (Ya (wpAny_pyIter_list hl ?_)))))
 refine Ya (wpAny_newObj_type ?_)
 refine Ye ⟨rfl,?_⟩
 have hlt:l<s.heap.objs.size:=by obtain⟨o,e,_⟩:=hl;exact Yj e
 have n1:l≠s.heap.objs.size:=Yk hlt
 have esz:(s.heap.push {cls:=.type "list_iterator",data:=.fields #[.ref l,.int 0 0]}).objs.size=s.heap.objs.size+1:=Heap.size_push _ _
 have old:∀b o,s.heap.get? b=some o->((s.heap.push {cls:=.type "list_iterator",data:=.fields #[.ref l,.int 0 0]}).push {cls:=.type "list",data:=.seq #[]}).get? b=some o:=λb o e=>Yg _ (Yg _ e)
 have ne:∀b o,s.heap.get? b=some o->b∉[s.heap.objs.size]/\b≠(s.heap.push {cls:=.type "list_iterator",data:=.fields #[.ref l,.int 0 0]}).objs.size:=λb o e=>by
  have:=Yj e
  refine⟨λz=>?_,λz=>?_⟩
  ·have:b=s.heap.objs.size:=by simpa using z
   exact absurd (Yj e) (by rw[this];exact YA _)
  ·rw[z,esz]at this
   exact absurd this (Nat.not_lt_of_le (YT _))
 have W:=Walks.list (prog:=prog) (w:=w) (A:=A.in1) hA s.heap.objs.size l n1 (intItems xs)
 have hitm:(intItems xs).size=xs.size:=by simp[intItems]
 refine Znz W (λi j=>decide (numAt xs i>numAt xs j)) (CmpOf.ints_gt (numAt xs) λi v h=>intItems_at h) _ ?_ "default" d _ s (λz h' tk kp=>?_) (λz v h' tk hv kp=>?_) (intItems xs).size 0 _ _ rfl (Yn _) ⟨?_,?_⟩ (λb o _ _ e=>e) (.inl ⟨rfl,_,Ym _ rfl⟩)
 ·rw[esz]
  simp only[Yl,List.not_mem_nil,or_false,not_or]
  exact⟨Nat.ne_of_gt (Nat.lt_succ_self _),Nat.ne_of_gt (YG hlt)⟩
 ·exact q0 (by omega) h' tk λb o e=>kp b o (ne b o e).1 (ne b o e).2 (old b o e)
 ·exact q1 (by omega) v h' tk (by rw[<-hitm];exact hv) λb o e=>kp b o (ne b o e).1 (ne b o e).2 (old b o e)
 ·exact⟨_,Yg _ (Ym _ rfl),rfl,rfl⟩
 ·obtain⟨o,e,r⟩:=hl
  exact⟨o,old _ _ e,r⟩
theorem ZnC {prog:Program}{w:World}{A:Around}{R:Result->Shared->Prop}{I:Addr}{fp wr:List Addr}{n:Nat}{P:Nat->Value->Prop}{St:Nat->Heap->Prop} (W:Walks prog w A.in1 I fp wr n P St) (bt:Nat->Nat->Bool) (hc:CmpOf prog w A.in1 .Lt P bt)
  (S:Addr) (hS:S∉fp) (dk:Str) (d:Value) (h0:Heap) (s0:Shared)
  (hR0:n=0->∀h' tk,(∀b o,b∉wr->b≠S->h0.get? b=some o->h'.get? b=some o)->R (.ok (.ret d)) {s0 with heap:=h',toks:=tk})
  (hR:0<n->∀v h' tk,P (argBest bt (n-1)) v->(∀b o,b∉wr->b≠S->h0.get? b=some o->h'.get? b=some o)->R (.ok (.ret v)) {s0 with heap:=h',toks:=tk}) :
  ∀(k j:Nat) (h:Heap) (tk:Nat),n-j=k->j<=n->St j h->(∀b o,b∉wr->b≠S->h0.get? b=some o->h.get? b=some o) ->
   ((j=0/\∃c,h.get? S=some {cls:=.type "list",data:=.seq #[] c})\/(0<j/\∃vb c,P (argBest bt (j-1)) vb/\h.get? S=some {cls:=.type "list",data:=.seq #[vb,vb] c})) ->
   codeAny (model prog w) A (.builtin "min.loop" {pos:=[.ref I,.none,.ref S],kw:=[(dk,d)]}) R {s0 with heap:=h,toks:=tk}:=by
 intro k
 induction k with
 |zero =>
  intro j h tk hk hj hst keep hb
  refine codeAny_builtin F.entry_min_loop ?_
  have hjn:j=n:=by omega
  subst hjn
  rcases hb with⟨hj0,c,hb⟩|⟨hj0,vb,c,hvb,hb⟩
  ·show wpAny _ _ (_ >>= _) _ _ _
   refine Ya (wpAny_seqItems hb rfl ?_)
   refine Ya (wpAny_tryCatch (W.done _ _ _ hst λh' tk' kp=>?_))
   refine Ya (wpAny_rule (Ye ?_))
   exact hR0 hj0 h' tk' λb o hb1 hb2 e=>kp b o hb1 (keep b o hb1 hb2 e)
  ·show wpAny _ _ (_ >>= _) _ _ _
   refine Ya (wpAny_seqItems hb rfl ?_)
   refine Ya (wpAny_tryCatch (W.done _ _ _ hst λh' tk' kp=>?_))
   have hS':S∉wr:=λz=>hS (W.sub S z)
   have hb':=kp S _ hS' hb
   refine Ya (wpAny_updateSeq hb' rfl ?_ (show 2<=sizeLine by decide) (Yn _))
   refine Ya (wpAny_letGo (Ye ?_))
   refine hR hj0 vb _ tk' hvb λb o hb1 hb2 e=>?_
   exact(Heap.get?_update_other _ _ (Ne.symm hb2)).trans (kp b o hb1 (keep b o hb1 hb2 e))
 |succ k ih =>
  intro j h tk hk hj hst keep hb
  refine codeAny_builtin F.entry_min_loop ?_
  have hjn:j<n:=by omega
  have hS':S∉wr:=λz=>hS (W.sub S z)
  rcases hb with⟨hj0,c,hb⟩|⟨hj0,vb,c,hvb,hb⟩
  ·show wpAny _ _ (_ >>= _) _ _ _
   refine Ya (wpAny_seqItems hb rfl ?_)
   refine Ya (wpAny_tryCatch (W.item j _ _ _ hjn hst λv h' tk' hv hst' kp=>?_))
   have hb':=kp S _ hS' hb
   refine Ya (Ye ?_)
   refine Ya (wpAny_updateSeq hb' rfl ?_ (Yn _) (show 2<=sizeLine+1 by decide))
   refine Ye ⟨rfl,?_⟩
   have e9:=PySem.IsL.update hb' (λ_=>#[v,v])
   refine ih (j+1) _ tk' (by omega) (by omega) (W.frame _ _ _ hst' λb hb1 o e=>?_) (λb o hb1 hb2 e=>?_) (.inr ⟨by omega,v,_,?_,e9⟩)
   ·exact(Heap.get?_update_other _ _ (show S≠b from λz=>hS (by rw[z];exact hb1))).trans e
   ·exact(Heap.get?_update_other _ _ (Ne.symm hb2)).trans (kp b o hb1 (keep b o hb1 hb2 e))
   ·rw[hj0];rw[hj0]at hv;exact hv
  ·show wpAny _ _ (_ >>= _) _ _ _
   refine Ya (wpAny_seqItems hb rfl ?_)
   refine Ya (wpAny_tryCatch (W.item j _ _ _ hjn hst λv h' tk' hv hst' kp=>?_))
   have hb':=kp S _ hS' hb
   obtain⟨j',rfl⟩:∃j',j=j'+1:=⟨j-1,by omega⟩
   have hvb':P (argBest bt j') vb:=hvb
   have eA:argBest bt (j'+1)=if bt (j'+1) (argBest bt j')=true then j'+1 else argBest bt j':=rfl
   refine Ya (Ye ?_)
   refine Ya (wpAny_tryCatch (wpAny_holding (Ya (hc (j'+1) (argBest bt j') v vb _ _ _ hv hvb' (Ya (wpAny_holding (wpAny_truthy_bool (Ya (wpAny_letGo (Ye ?_))))))))))
   by_cases z:bt (j'+1) (argBest bt j')=true
   ·rw[Yc z]
    refine Ya (wpAny_updateSeq hb' rfl ?_ (show 2<=sizeLine by decide) (show 2<=sizeLine+1 by decide))
    refine Ya (wpAny_letGo (Ye ⟨rfl,?_⟩))
    have e9:=PySem.IsL.update hb' (λ_=>#[v,v])
    refine ih (j'+1+1) _ tk' (by omega) (by omega) (W.frame _ _ _ hst' λb hb1 o e=>?_) (λb o hb1 hb2 e=>?_) (.inr ⟨by omega,v,_,?_,e9⟩)
    ·exact(Heap.get?_update_other _ _ (show S≠b from λz=>hS (by rw[z];exact hb1))).trans e
    ·exact(Heap.get?_update_other _ _ (Ne.symm hb2)).trans (kp b o hb1 (keep b o hb1 hb2 e))
    ·show P (argBest bt (j'+1)) v
     rw[eA,Yc z];exact hv
   ·rw[Yb z]
    refine Ya (wpAny_letGo (Ye ⟨rfl,?_⟩))
    refine ih (j'+1+1) _ tk' (by omega) (by omega) hst' (λb o hb1 hb2 e=>kp b o hb1 (keep b o hb1 hb2 e)) (.inr ⟨by omega,vb,_,?_,hb'⟩)
    show P (argBest bt (j'+1)) vb
    rw[eA,Yb z];exact hvb'
theorem ZnD (a d:Value):argsOk "min" {pos:=[a],kw:=[("default",d)]}:=by first|rfl|decide
theorem ZnE {prog:Program}{w:World}{A:Around}{E Q:Value->Shared->Prop}{s:Shared}{l:Addr}{xs:Array (Int×Tok)}{d:Value} (hA:A.handled=none) (hl:s.heap.IsList l (intItems xs))
  (q0:xs.size=0->∀h' tk,(∀b o,s.heap.get? b=some o->h'.get? b=some o)->Q d {s with heap:=h',toks:=tk})
  (q1:0<xs.size->∀v h' tk,(intItems xs)[argBest (λi j=>decide (numAt xs i<numAt xs j)) (xs.size-1)]?=some v->(∀b o,s.heap.get? b=some o->h'.get? b=some o)->Q v {s with heap:=h',toks:=tk}) :
  wpAny (model prog w) A (call (.builtin "min") [.ref l] [("default",d)]) Q E s:=by
 refine wpAny_call (codeAny_call_builtin_code rfl ?_)
 have hck:checkBuiltinCall "min" {pos:=[.ref l],kw:=[("default",d)]}=pure ():=by
  unfold checkBuiltinCall
  rw[F.kind_min]
  exact ZnD (.ref l) d
 rw[hck]
 refine Ye (codeAny_builtin F.entry_min ?_)
 show wpAny _ _ (_ >>= _) _ _ _
 have hbp:Builtin.Builtins.bindParams "min" ["key","default"] 0 {kw:=[("default",d)]}=pure [none,some d]:=by
  first|rfl|with_unfolding_all rfl|(simp[Builtin.Builtins.bindParams];done)
 refine Ya (wpAny_of_eq hbp (Ya (Ye (Ya (wpAny_pyIter_list hl ?_)))))
 refine Ya (wpAny_newObj_type ?_)
 refine Ye ⟨rfl,?_⟩
 have hlt:l<s.heap.objs.size:=by obtain⟨o,e,_⟩:=hl;exact Yj e
 have n1:l≠s.heap.objs.size:=Yk hlt
 have esz:(s.heap.push {cls:=.type "list_iterator",data:=.fields #[.ref l,.int 0 0]}).objs.size=s.heap.objs.size+1:=Heap.size_push _ _
 have old:∀b o,s.heap.get? b=some o->((s.heap.push {cls:=.type "list_iterator",data:=.fields #[.ref l,.int 0 0]}).push {cls:=.type "list",data:=.seq #[]}).get? b=some o:=λb o e=>Yg _ (Yg _ e)
 have ne:∀b o,s.heap.get? b=some o->b∉[s.heap.objs.size]/\b≠(s.heap.push {cls:=.type "list_iterator",data:=.fields #[.ref l,.int 0 0]}).objs.size:=λb o e=>by
  have:=Yj e
  refine⟨λz=>?_,λz=>?_⟩
  ·have:b=s.heap.objs.size:=by simpa using z
   exact absurd (Yj e) (by rw[this];exact YA _)
  ·rw[z,esz]at this
   exact absurd this (Nat.not_lt_of_le (YT _))
 have W:=Walks.list (prog:=prog) (w:=w) (A:=A.in1) hA s.heap.objs.size l n1 (intItems xs)
 have hitm:(intItems xs).size=xs.size:=by simp[intItems]
 refine ZnC W (λi j=>decide (numAt xs i<numAt xs j)) (CmpOf.ints_lt (numAt xs) λi v h=>intItems_at h) _ ?_ "default" d _ s (λz h' tk kp=>?_) (λz v h' tk hv kp=>?_) (intItems xs).size 0 _ _ rfl (Yn _) ⟨?_,?_⟩ (λb o _ _ e=>e) (.inl ⟨rfl,_,Ym _ rfl⟩)
 ·rw[esz]
  simp only[Yl,List.not_mem_nil,or_false,not_or]
  exact⟨Nat.ne_of_gt (Nat.lt_succ_self _),Nat.ne_of_gt (YG hlt)⟩
 ·exact q0 (by omega) h' tk λb o e=>kp b o (ne b o e).1 (ne b o e).2 (old b o e)
 ·exact q1 (by omega) v h' tk (by rw[<-hitm];exact hv) λb o e=>kp b o (ne b o e).1 (ne b o e).2 (old b o e)
 ·exact⟨_,Yg _ (Ym _ rfl),rfl,rfl⟩
 ·obtain⟨o,e,r⟩:=hl
  exact⟨o,old _ _ e,r⟩
section
variable {X:Cx}
noncomputable def tMaxD (K:Frag) (ta td:TA):TE:=fun σ H Q=>ta σ H λvs H1=>td σ H1 λzs H2=>∃(p:Addr) (ns:List Int) (d:Int),vs=[.ref p]/\zs=[.int d]/\SqL K H2 p (ns.map V.int)/\(ns=[]->Q (.int d) H2)/\(ns≠[]->∀m,m∈ns->(∀a∈ns,a<=m)->Q (.int m) H2)
theorem Zrt {K:Frag}{e:Expr}{kws:List Keyword}{ta td:TA}{p pos:Pos} (hK:X.K=K) (hc:X.calm=true) (hg:Gl X "max") (hm:X.mg "max"=none) (ha:PA X [e] ta) (hd:PK X kws td)
  (he:starEach [e] X.env=(false,eval e X.env)::starEach [] X.env:=by rfl) (hpl:(backTo pos (starEach [e] X.env)).any (·.1)=false:=by rfl) (hall:(backToKw pos (keywordEach kws X.env)).all (·.1.isSome)=true:=by rfl)
  (hnn:(backToKw pos (keywordEach kws X.env)).any (·.1.isNone)=false:=by rfl) (hks:(backToKw pos (keywordEach kws X.env)).filterMap (·.1)=[(("default":String):Str)]:=by rfl) (hb:backTo pos (starEach [e] X.env)=(false,eval e X.env)::backTo pos (starEach [] X.env):=by rfl) :
  PE X (.Call (.Name "max" p) [e] kws pos) (tMaxD K ta td):=by
 subst hK
 intro pins s σ H Q I h
 refine wpAny_Call_Name_kw (ZaW I hg hm bt_max ?_)
 refine PyProof.Rows.callWith_kw (thn (ha pos pins s σ H _ I h) λus s1 ⟨vs,H1,I1,r1,q1⟩=>?_) hb hpl hall hnn
 refine thn (hd pos pins s1 σ H1 _ I1 q1) λws s2 ⟨zs,H2,I2,r2,pp,ns,d,e1,e2,hp,q0,qm⟩=>?_
 subst e1 e2
 obtain⟨u,rfl,ru⟩:=r1.one
 obtain⟨v,rfl,rv⟩:=r2.one
 cases(show u=Value.ref pp from ru)
 rw[hks]
 obtain⟨its,rr,pl,hz⟩:=I2.list hp
 obtain⟨ys,e1,e2⟩:=ZhW rr
 have hsz:ys.size=ns.length:=by
  have:=congrArg List.length e2
  rw[Yh,YM]at this
  exact this
 refine ZnB (xs:=ys) (I2.ok.hd hc) (e1▸pl.isList) (λz h' tk k=>?_) (λz v' h' tk hv k=>?_)
 ·exact⟨.int d,H2,I2.kept k,rv,q0 (List.length_eq_zero_iff.mp (by omega))⟩
 ·obtain⟨t,rfl⟩:=intItems_at hv
  obtain⟨h1,h2⟩:=argBest_gt (numAt ys) (ys.size-1)
  refine⟨.int _,H2,I2.kept k,⟨t,rfl⟩,qm (λy=>by have h3:ys.size=0:=(by rw[hsz,y];rfl);omega) _ ?_ λa ha=>?_⟩
  ·rw[numAt_eq,e2];exact getD_mem (by omega)
  ·obtain⟨j,hj,rfl⟩:=mem_getD ha
   rw[<-e2,<-numAt_eq];exact h2 j (by omega)
end
section
variable {X:Cx}
noncomputable def tMinD (K:Frag) (ta td:TA):TE:=fun σ H Q=>ta σ H λvs H1=>td σ H1 λzs H2=>∃(p:Addr) (ns:List Int) (d:Int),vs=[.ref p]/\zs=[.int d]/\SqL K H2 p (ns.map V.int)/\(ns=[]->Q (.int d) H2)/\(ns≠[]->∀m,m∈ns->(∀a∈ns,m<=a)->Q (.int m) H2)
theorem Zru {K:Frag}{e:Expr}{kws:List Keyword}{ta td:TA}{p pos:Pos} (hK:X.K=K) (hc:X.calm=true) (hg:Gl X "min") (hm:X.mg "min"=none) (ha:PA X [e] ta) (hd:PK X kws td)
  (he:starEach [e] X.env=(false,eval e X.env)::starEach [] X.env:=by rfl) (hpl:(backTo pos (starEach [e] X.env)).any (·.1)=false:=by rfl) (hall:(backToKw pos (keywordEach kws X.env)).all (·.1.isSome)=true:=by rfl)
  (hnn:(backToKw pos (keywordEach kws X.env)).any (·.1.isNone)=false:=by rfl) (hks:(backToKw pos (keywordEach kws X.env)).filterMap (·.1)=[(("default":String):Str)]:=by rfl) (hb:backTo pos (starEach [e] X.env)=(false,eval e X.env)::backTo pos (starEach [] X.env):=by rfl) :
  PE X (.Call (.Name "min" p) [e] kws pos) (tMinD K ta td):=by
 subst hK
 intro pins s σ H Q I h
 refine wpAny_Call_Name_kw (ZaW I hg hm bt_min ?_)
 refine PyProof.Rows.callWith_kw (thn (ha pos pins s σ H _ I h) λus s1 ⟨vs,H1,I1,r1,q1⟩=>?_) hb hpl hall hnn
 refine thn (hd pos pins s1 σ H1 _ I1 q1) λws s2 ⟨zs,H2,I2,r2,pp,ns,d,e1,e2,hp,q0,qm⟩=>?_
 subst e1 e2
 obtain⟨u,rfl,ru⟩:=r1.one
 obtain⟨v,rfl,rv⟩:=r2.one
 cases(show u=Value.ref pp from ru)
 rw[hks]
 obtain⟨its,rr,pl,hz⟩:=I2.list hp
 obtain⟨ys,e1,e2⟩:=ZhW rr
 have hsz:ys.size=ns.length:=by
  have:=congrArg List.length e2
  rw[Yh,YM]at this
  exact this
 refine ZnE (xs:=ys) (I2.ok.hd hc) (e1▸pl.isList) (λz h' tk k=>?_) (λz v' h' tk hv k=>?_)
 ·exact⟨.int d,H2,I2.kept k,rv,q0 (List.length_eq_zero_iff.mp (by omega))⟩
 ·obtain⟨t,rfl⟩:=intItems_at hv
  obtain⟨h1,h2⟩:=argBest_lt (numAt ys) (ys.size-1)
  refine⟨.int _,H2,I2.kept k,⟨t,rfl⟩,qm (λy=>by have h3:ys.size=0:=(by rw[hsz,y];rfl);omega) _ ?_ λa ha=>?_⟩
  ·rw[numAt_eq,e2];exact getD_mem (by omega)
  ·obtain⟨j,hj,rfl⟩:=mem_getD ha
   rw[<-e2,<-numAt_eq];exact h2 j (by omega)
end
theorem ifR {c:TT}{t u:TS}{D:Ends}{σ:St}{H:Hp} (T U:Hp->Prop) (ht:∀H1,T H1->t D σ H1) (hu:∀H1,U H1->u D σ H1) (hc:∀B:Bool->Hp->Prop,(∀H1,T H1->B true H1)->(∀H1,U H1->B false H1)->c σ H B):tIfS c t u D σ H :=
 hc _ (λH1 h=>by rw[Yc rfl];exact ht H1 h) (λH1 h=>by rw[Yb (by simp)];exact hu H1 h)
section
variable {X:Cx}
theorem ZnF:bootBuiltins "sorted"=some (.builtin "sorted"):=by decide +kernel
end
section
variable {prog:Program}{w:World}{A:Around}{E Q:Value->Shared->Prop}{s:Shared}{it t:Addr}{i:Nat}{items:Array Value}
theorem Zgi {x:Value} (hi:s.heap.IsTupleIter it t i) (ht:s.heap.IsTuple t items) (hx:items[i]?=some x) (h:∀h',h'.IsTupleIter it t (i+1)->Heap.SameBut it s.heap h'->Q x {s with heap:=h'}):wpAny (model prog w) A (Builtin.SmallTypes.nextOf (.ref it)) Q E s:=by
 obtain⟨o,ho,hc,hd⟩:=id hi
 obtain⟨ot,hot,hct,n,hdt⟩:=id ht
 have hT:s.TypeIs (.ref it) "tuple_iterator":=⟨o,ho,hc⟩
 unfold Builtin.SmallTypes.nextOf
 refine Ya (wpAny_callSpecial?_slot hT F.slot_tuple_iterator_next (wpAny_call_entry F.slot_tuple_iterator_next hT F.entry_tuple_iterator_next ?_ (F.args_tuple_iterator_next_1 _)))
 show wpAny _ _ (_ >>= _) _ _ _
 refine Ya (wpAny_of_eq (show slotArgs "__next__" 0 {pos:=[.ref it]}=pure (.ref it,[])from rfl) ?_)
 refine Ya (wpAny_field ho hd (x:=.ref t) rfl ?_)
 rw[Yb (by simp)]
 refine Ya (wpAny_field ho hd (x:=.int (i:Int) 0) rfl ?_)
 refine Ya (wpAny_seqItems hot hdt ?_)
 dsimp only
 rw[Y5,hx]
 refine Ya (wpAny_setField ho hd (by show 1<2;decide) (Ye ⟨x,rfl,?_⟩))
 refine Ye (h _ ?_ ⟨by simp,λb hb=>Heap.get?_update_other _ _ (Ne.symm hb)⟩)
 obtain⟨cls,dict,data,slots⟩:=o
 simp only at hc hd
 subst hc hd
 exact⟨_,Heap.get?_update_self _ ho rfl,rfl,rfl⟩
theorem ZgQ (hA:A.handled=none) (hi:s.heap.IsTupleIter it t i) (ht:s.heap.IsTuple t items) (hx:items[i]?=none) (h:∀h' e,Heap.ExtBut it s.heap h'->(∃o,h'.get? e=some o/\o.cls=.type "StopIteration")->E (.ref e) {s with heap:=h'}):wpAny (model prog w) A (Builtin.SmallTypes.nextOf (.ref it)) Q E s:=by
 obtain⟨o,ho,hc,hd⟩:=id hi
 obtain⟨ot,hot,hct,n,hdt⟩:=id ht
 have hT:s.TypeIs (.ref it) "tuple_iterator":=⟨o,ho,hc⟩
 unfold Builtin.SmallTypes.nextOf
 refine Ya (wpAny_callSpecial?_slot hT F.slot_tuple_iterator_next (wpAny_call_entry F.slot_tuple_iterator_next hT F.entry_tuple_iterator_next ?_ (F.args_tuple_iterator_next_1 _)))
 show wpAny _ _ (_ >>= _) _ _ _
 refine Ya (wpAny_of_eq (show slotArgs "__next__" 0 {pos:=[.ref it]}=pure (.ref it,[])from rfl) ?_)
 refine Ya (wpAny_field ho hd (x:=.ref t) rfl ?_)
 rw[Yb (by simp)]
 refine Ya (wpAny_field ho hd (x:=.int (i:Int) 0) rfl ?_)
 refine Ya (wpAny_seqItems hot hdt ?_)
 dsimp only
 rw[Y5,hx]
 refine Ya (wpAny_rule (Ya (wpAny_setField ho hd (by show 0<2;decide) ?_)))
 unfold Builtin.SmallTypes.stopIteration
 refine Ya ?_
 unfold newExc
 refine Ya (wpAny_newTuple ?_ (Yn _))
 refine Ya (wpAny_of_eq (show firstArgMember (.type "StopIteration") []=pure .none by first|rfl|(unfold firstArgMember;rfl)) ?_)
 refine wpAny_newObj_type (wpAny_raiseNew_none hA (h _ _ (λb o' hb e=>?_) ⟨_,Ym _ rfl,rfl⟩))
 exact Yg _ (Yg _ ((Heap.get?_update_other _ _ (Ne.symm hb)).trans e))
theorem Zhf (hA:A.handled=none) (it t:Addr) (hne:t≠it) (items:Array Value):Draws prog w A it [it,t] items.size (λi v=>items[i]?=some v) (λi h=>h.IsTupleIter it t i/\h.IsTuple t items) where
 live:=λi h st=>by obtain⟨⟨o,ho,_⟩,_⟩:=st;exact⟨o,ho⟩
 frame:=λi h h' st k=>by
  obtain⟨⟨o,ho,r⟩,⟨ot,hot,rt⟩⟩:=st
  exact⟨⟨o,k it (by simp) o ho,r⟩,⟨ot,k t (by simp) ot hot,rt⟩⟩
 item:=λi s Q E hi st h=>by
  obtain⟨ot,hot,rt⟩:=st.2
  refine Zgi st.1 st.2 (Array.getElem?_eq_getElem hi) λh' hit hs=>h _ h' s.toks (Array.getElem?_eq_getElem hi) ⟨hit,⟨ot,(hs.2 t hne).trans hot,rt⟩⟩ hs
 done:=λs Q E st h=>ZgQ hA st.1 st.2 (Array.getElem?_eq_none (Yd _)) h
end
section
variable {X:Cx}{pins:List (Addr×Obj)}{σ:St}{H:Hp}{s:Shared}{h':Heap}
noncomputable def IteT (K : Frag) (a : Addr) : It :=
  ⟨fun i H => ∃ xs x, SqT K H a xs ∧ xs[i]? = some x,
   fun i H v H' => ∃ p x, H p = none ∧ v = .ref p ∧ H' = upd H p (.tup [.int (i : Int), x]) ∧ ∀ xs, SqT K H a xs → xs[i]? = some x,
   fun i H => ∃ xs, SqT K H a xs ∧ xs.length = i⟩
theorem Zim {P:Program}{w:World}{K:Frag}{elts:List Expr} {x1}{pos:Pos}{a e it:Addr} (h1:e≠it) (h2:a≠e) (h3:a≠it) :
  Turn P w K (.Tuple elts x1 pos) (IteT K a) [e,it] e (λi h=>(∃old,IsEnum h e it (i:Int) old)/\h.IsTupleIter it a i) where
 mem:=by simp
 obj:=λi h st c hc=>by
  obtain⟨⟨old,q1⟩,⟨o4,q4,_,d4⟩⟩:=st
  simp at hc
  rcases hc with rfl|rfl
  ·exact⟨_,q1,λv z=>by cases z⟩
  ·exact⟨_,q4,λv z=>by rw[d4]at z;cases z⟩
 keep:=λi h h' st k=>by
  obtain⟨⟨old,q1⟩,⟨o,ho,r⟩⟩:=st
  exact⟨⟨old,k e (by simp) _ q1⟩,⟨o,k it (by simp) o ho,r⟩⟩
 item:=by
  intro X hP hw hK hc i pins s σ H E I hf st hg
  subst hP hw hK
  obtain⟨xs,x,qa,hx⟩:=hg
  obtain⟨is1,r1,p1,hz1⟩:=I.tuple qa
  obtain⟨u,hu,ru⟩:=r1.get hx
  have W:=WalksT.enumerateD (prog:=X.prog) (w:=X.w) (A:=X.A) (Zhf (A:=X.A.in1) (I.ok.hd hc) it a h3 is1.toArray) e h1 (by simp;exact⟨h1,h2.symm⟩) (by simp)
  have hi:i<is1.toArray.size:=by
   have:=(Yp.mp hu).1
   simpa using this
  refine W.item i s _ E hi ⟨st.1,st.2,p1⟩ λT vals h' tk Pt hT hTup Mid keep=>⟨_,rfl,W.go elts x1 pos i T _ _ E Mid λh2' St2 keep2=>?_⟩
  obtain⟨t,y,hy,rfl⟩:=Pt
  have hyu:y=u:=by
   have:is1[i]?=some y:=by simpa using hy
   rw[hu]at this;exact(Yy this).symm
  subst hyu
  have nT:=W.apart i T h' Mid
  have hfr:H T=none:=I.hok.fresh hT
  have kk:∀b o,b∉[e,it]->s.heap.get? b=some o->h2'.get? b=some o:=λb o hb q=>keep2 b o hb (keep b o hb q)
  have nTe:∀c∈[e,it],c≠T:=λc hc z=>nT (z▸hc)
  refine⟨.ref T,_,Inv.Zkf (s:=s) (t':=tk) (o:=.tup [.int (i:Int),x]) I kk hf hT ?_,rfl,⟨T,x,hfr,rfl,rfl,λxs' q'=>?_⟩,⟨?_,St2.2.1⟩,λc hc=>?_⟩
  ·obtain⟨oT,q1,q2,n,q3⟩:=hTup
   exact⟨by show 2<=sizeLine;decide,[.int (i:Int) t,y],.cons ⟨t,rfl⟩ (.cons ru .nil),⟨oT,keep2 T oT nT q1,q2,n,q3⟩⟩
  ·rw[I.ZgH q' qa];exact hx
  ·obtain⟨old,q⟩:=St2.1
   exact⟨old,by rw[show(((i+1:Nat)):Int)=(i:Int)+1 by omega]at *;exact q⟩
  ·rw[Zh (nTe c hc)];exact(hf c hc).1
 done:=by
  intro X hP hw hK hc i pins s σ H E I hf st hg
  subst hP hw hK
  obtain⟨xs,qa,hx⟩:=hg
  obtain⟨is1,r1,p1,_⟩:=I.tuple qa
  have W:=WalksT.enumerateD (prog:=X.prog) (w:=X.w) (A:=X.A) (Zhf (A:=X.A.in1) (I.ok.hd hc) it a h3 is1.toArray) e h1 (by simp;exact⟨h1,h2.symm⟩) (by simp)
  have hi:i=is1.toArray.size:=by
   have:=r1.length
   simp;omega
  refine W.done s _ E ?_ λh' tk keep=>⟨rfl,I.Zj9 (t':=tk) (fp:=[e,it]) (λc o hc q=>keep c o hc q) hf⟩
  rw[<-hi]
  exact⟨st.1,st.2,p1⟩
 self:=λA i s Q E st h=>by
  obtain⟨⟨old,q⟩,_⟩:=st
  exact wpAny_pyIter_enum q h
theorem Zin {M:Model}{A:Around}{E:Value->Shared->Prop}{s:Shared} (cls:Value):wpAny M A (Builtin.SmallTypes.calledThroughType cls) (λ_ s'=>s'=s) E s:=by
 unfold Builtin.SmallTypes.calledThroughType
 exact Ya (wpAny_stack λst _ _ _=>Ye rfl)
theorem Zhg {prog:Program}{w:World} (l:Addr) (items:Array Value):MeetsIn prog w (Builtin.«enumerate.__new__» {pos:=[.type "enumerate",.ref l]}) λA R s=>s.heap.IsTuple l items/\R (.ok (.ret (.ref (s.heap.objs.size+1)))) {s with heap:=(s.heap.push {cls:=.type "tuple_iterator",data:=.fields #[.ref l,.int 0 0]}).push {cls:=.type "enumerate",data:=.fields #[.none,.bool false,.ref s.heap.objs.size,rawInt 0,.none,.none]}}:=by
 intro A R s ⟨h,hR⟩
 unfold Builtin.«enumerate.__new__»
 refine Ya (wpAny_of_eq (show Builtin.SmallTypes.newClass "enumerate" {pos:=[.type "enumerate",.ref l]}=pure (.type "enumerate",[.ref l])from by first|rfl|(unfold Builtin.SmallTypes.newClass;rfl)) ?_)
 show wpAny _ _ (_ >>= _) _ _ _
 have hsz:(s.heap.push {cls:=.type "tuple_iterator",data:=.fields #[.ref l,.int 0 0]}).objs.size=s.heap.objs.size+1:=Heap.size_push _ _
 refine Ya (thn (Zin (.type "enumerate")) λb s' e=>?_)
 subst e
 cases b with
 |true =>
  show wpAny _ _ (_ >>= _) _ _ _
  refine Ya (wpAny_of_eq (show _=pure (.ref l,none)from rfl) ?_)
  show wpAny _ _ (_ >>= _) _ _ _
  refine Ya (wpAny_pyIter_tuple h ?_)
  show wpAny _ _ (newObj (.type "enumerate") (.fields #[.none,.bool false,.ref s'.heap.objs.size,rawInt 0,.none,.none]) >>= _) _ _ _
  refine Ya (wpAny_newObj_type (Ye ?_))
  rw[hsz];exact hR
 |false =>
  show wpAny _ _ (_ >>= _) _ _ _
  refine Ya (wpAny_of_eq (show _=pure (.ref l,none)from rfl) ?_)
  show wpAny _ _ (_ >>= _) _ _ _
  refine Ya (wpAny_pyIter_tuple h ?_)
  show wpAny _ _ (newObj (.type "enumerate") (.fields #[.none,.bool false,.ref s'.heap.objs.size,rawInt 0,.none,.none]) >>= _) _ _ _
  refine Ya (wpAny_newObj_type (Ye ?_))
  rw[hsz];exact hR
noncomputable def iEnumT (K:Frag) (ta:TA):TI:=fun σ H R=>ta σ H λvs H1=>∃a xs,vs=[.ref a]/\SqT K H1 a xs/\R (IteT K a) H1
theorem Zk9 {K:Frag}{elts:List Expr} {x1}{tp:Pos}{e1:Expr}{ta:TA}{p pos:Pos} (hK:X.K=K) (hg:Gl X "enumerate") (hm:X.mg "enumerate"=none) (ha:PA X [e1] ta) (hs:starEach [e1] X.env=[(false,eval e1 X.env)]:=by rfl) :
  PI X (.Tuple elts x1 tp) (.Call (.Name "enumerate" p) [e1] [] pos) (iEnumT K ta):=by
 subst hK
 intro pins s σ H R I h
 refine wpAny_Call_Name_kw (ZaW I hg hm ZdB ?_)
 refine PyProof.Rows.callWith_type1 (thn (ha pos pins s σ H _ I h) λus s1 ⟨vs,H1,I1,r1,a,xs,e1,qa,q⟩=>?_) hs rfl
 subst e1
 obtain⟨u,rfl,ru⟩:=r1.one
 cases(show u=Value.ref a from ru)
 obtain⟨is1,rr1,p1,_⟩:=I1.tuple qa
 have l1:a<s1.heap.objs.size:=by obtain⟨o,e,_⟩:=p1;exact Yj e
 have sm:∀b,s1.heap.objs.size<=b->FpOk X pins H1 b:=λb hb=>I1.Zh4 hb (I1.hok.fresh hb)
 have n1:s1.heap.objs.size+1≠s1.heap.objs.size:=by show ¬ ((_:Nat)=_);omega
 have n2:a≠s1.heap.objs.size+1:=Yk (YG l1)
 have n3:a≠s1.heap.objs.size:=Yk l1
 have T:=Zim (P:=X.prog) (w:=X.w) (K:=X.K) (elts:=elts) (x1:=x1) (pos:=tp) n1 n2 n3
 have hsz:(s1.heap.push {cls:=.type "tuple_iterator",data:=.fields #[.ref a,.int 0 0]}).objs.size=s1.heap.objs.size+1:=Heap.size_push _ _
 have c1:IsEnum ((s1.heap.push {cls:=.type "tuple_iterator",data:=.fields #[.ref a,.int 0 0]}).push {cls:=.type "enumerate",data:=.fields #[.none,.bool false,.ref s1.heap.objs.size,rawInt 0,.none,.none]}) (s1.heap.objs.size+1) s1.heap.objs.size 0 .none:=by
  show Heap.get? _ _=_
  rw[<-hsz];exact Ym _ rfl
 have c2:((s1.heap.push {cls:=.type "tuple_iterator",data:=.fields #[.ref a,.int 0 0]}).push {cls:=.type "enumerate",data:=.fields #[.none,.bool false,.ref s1.heap.objs.size,rawInt 0,.none,.none]}).IsTupleIter s1.heap.objs.size a 0:=⟨_,Yg _ (Ym _ rfl),rfl,rfl⟩
 refine callType_newIn F.called_enumerate rfl (by first|rfl|decide) (F.newCall_enumerate_1 _) (λobj=>by first|rfl|decide) F.entry_enumerate_new (Zhg a is1.toArray) ⟨p1,⟨_,c1,rfl⟩,?_⟩
 refine T.self _ 0 _ _ _ ⟨⟨_,c1⟩,c2⟩ ?_
 refine⟨_,[s1.heap.objs.size+1,s1.heap.objs.size],_,_,H1,rfl,I1.kept (t':=s1.toks) (λb o e=>Yg _ (Yg _ e)),T,⟨⟨_,c1⟩,c2⟩,λc hc=>?_,q⟩
 simp at hc
 rcases hc with rfl|rfl<;>exact sm _ (by omega)
end
open Classical in
noncomputable def ZaX (f:Nat->Int) (p:Nat):Int:=if h:∃q,Z5 f p q then (Classical.choose h:Nat)else -1
open Classical in
noncomputable def Za1 (f:Nat->Int) (n p:Nat):Int:=if h:∃r,Z3 f n p r then (Classical.choose h:Nat)else (n:Int)
theorem Zai {f:Nat->Int}{p q:Nat} (h:Z5 f p q):ZaX f p=q:=by
 have hx:∃q,Z5 f p q:=⟨q,h⟩
 unfold ZaX
 rw[dif_pos hx,(Classical.choose_spec hx).unique h]
theorem ZcH {f:Nat->Int}{p:Nat} (h:ZbW f p):ZaX f p=-1:=by
 unfold ZaX
 rw[dif_neg λ⟨q,hq⟩=>hq.no h]
theorem Zaj {f:Nat->Int}{n p r:Nat} (h:Z3 f n p r):Za1 f n p=r:=by
 have hx:∃r,Z3 f n p r:=⟨r,h⟩
 unfold Za1
 rw[dif_pos hx,(Classical.choose_spec hx).unique h]
theorem Zb5 {f:Nat->Int}{n p:Nat} (h:Zbl f n p):Za1 f n p=n:=by
 unfold Za1
 rw[dif_neg λ⟨q,hq⟩=>hq.no h]
theorem ZaP {f:Nat->Int}{n p:Nat}{e:Int} (h:ZI f n p e):(ZbW f p\/∃q,Z5 f p q)/\(Zbl f n p\/∃r,Z3 f n p r):=by
 rcases h with⟨h1,h2,_⟩|⟨q,h1,h2,_⟩|⟨r,h1,h2,_⟩|⟨q,r,h1,h2,_⟩
 ·exact⟨.inl h1,.inl h2⟩
 ·exact⟨.inr ⟨q,h1⟩,.inl h2⟩
 ·exact⟨.inl h1,.inr ⟨r,h2⟩⟩
 ·exact⟨.inr ⟨q,h1⟩,.inr ⟨r,h2⟩⟩
theorem Z5.over {f:Nat->Int}{p q:Nat} (h:Z5 f p q):Over f q p:=.inl ⟨h.1,λr r1 r2=>by
 by_cases z:r=p
 ·rw[z];exact h.2.1
 ·have:=h.2.2 r r1 (by omega);have:=h.2.1;omega⟩
theorem Z3.over {f:Nat->Int}{n p q:Nat} (h:Z3 f n p q):Over f q p:=.inr ⟨h.1,λr r1 r2=>by
 by_cases z:r=p
 ·rw[z];exact h.2.2.1
 ·have:=h.2.2.2 r (by omega) r2;have:=h.2.2.1;omega⟩
theorem Zpn {ns T:List Int} (hT:Zl ns T) {p:Nat} (hp:p<ns.length):let L:=(wayI T p).filter λo=>decide (o<(p:Int))
  (L=[]->ZaX (nth ns) p=-1)/\(L≠[]->∀m,m∈L->(∀a∈L,a<=m)->m=ZaX (nth ns) p):=by
 intro L
 have hL:∀o:Nat,(o:Int)∈L↔o<p/\o<ns.length/\Over (nth ns) o p:=λo=>by
  rw[YS,ZmV hT hp,decide_eq_true_eq]
  exact⟨λh=>⟨by omega,h.1⟩,λh=>⟨h.2,by omega⟩⟩
 have hN:∀m∈L,∃o:Nat,m=o:=λm hm=>by
  have:=(YS.mp hm).1
  rw[Zej]at this
  obtain⟨o,_,e⟩:=YH.mp this
  exact⟨o,e.symm⟩
 rcases(ZaP (hT.2 p hp)).1 with h|⟨q,h⟩
 ·refine⟨λ_=>ZcH h,λhne m hm _=>?_⟩
  obtain⟨o,rfl⟩:=hN m hm
  obtain⟨h1,_,h2⟩:=(hL o).mp hm
  have:=h o h1
  rcases h2 with⟨_,k⟩|⟨z,_⟩
  ·have:=k p h1 (Yd _);omega
  ·omega
 ·have hq:(q:Int)∈L:=(hL q).mpr ⟨h.1,by have:=h.1;omega,h.over⟩
  refine⟨λe=>by rw[e]at hq;simp at hq,λ_ m hm hmax=>?_⟩
  rw[Zai h]
  obtain⟨o,rfl⟩:=hN m hm
  obtain⟨h1,_,h2⟩:=(hL o).mp hm
  have hqo:=hmax _ hq
  by_cases z:o=q
  ·rw[z]
  ·have:=h.2.2 o (by omega) h1
   rcases h2 with⟨_,k⟩|⟨z,_⟩
   ·have:=k p h1 (Yd _);omega
   ·omega
theorem Zpo {ns T:List Int} (hT:Zl ns T) {p:Nat} (hp:p<ns.length):let L:=(wayI T p).filter λo=>decide ((p:Int)<o)
  (L=[]->Za1 (nth ns) ns.length p=ns.length)/\(L≠[]->∀m,m∈L->(∀a∈L,m<=a)->m=Za1 (nth ns) ns.length p):=by
 intro L
 have hL:∀o:Nat,(o:Int)∈L↔p<o/\o<ns.length/\Over (nth ns) o p:=λo=>by
  rw[YS,ZmV hT hp,decide_eq_true_eq]
  exact⟨λh=>⟨by omega,h.1⟩,λh=>⟨h.2,by omega⟩⟩
 have hN:∀m∈L,∃o:Nat,m=o:=λm hm=>by
  have:=(YS.mp hm).1
  rw[Zej]at this
  obtain⟨o,_,e⟩:=YH.mp this
  exact⟨o,e.symm⟩
 rcases(ZaP (hT.2 p hp)).2 with h|⟨q,h⟩
 ·refine⟨λ_=>Zb5 h,λhne m hm _=>?_⟩
  obtain⟨o,rfl⟩:=hN m hm
  obtain⟨h1,h3,h2⟩:=(hL o).mp hm
  have:=h o h1 h3
  rcases h2 with⟨z,_⟩|⟨_,k⟩
  ·omega
  ·have:=k p (Yd _) h1;omega
 ·have hq:(q:Int)∈L:=(hL q).mpr ⟨h.1,h.2.1,h.over⟩
  refine⟨λe=>by rw[e]at hq;simp at hq,λ_ m hm hmin=>?_⟩
  rw[Zaj h]
  obtain⟨o,rfl⟩:=hN m hm
  obtain⟨h1,h3,h2⟩:=(hL o).mp hm
  have hqo:=hmin _ hq
  by_cases z:o=q
  ·rw[z]
  ·have:=h.2.2.2 o h1 (by omega)
   rcases h2 with⟨z,_⟩|⟨_,k⟩
   ·omega
   ·have:=k p (Yd _) h1;omega
noncomputable def Za3 (H:Hp) (l:Addr) (n:Nat) (ps:Nat->Int×Int):Prop:=∃qs:List Addr,H l=some (.lst (qs.map V.ref))/\qs.length=n/\∀(j:Nat) (q:Addr),qs[j]?=some q->H q=some (.tup [.int (ps j).1,.int (ps j).2])
theorem Za3.same {H H':Hp}{l:Addr}{n:Nat}{ps:Nat->Int×Int} (h:Za3 H l n ps) (s:Zg H H'):Za3 H' l n ps:=by
 obtain⟨qs,h1,h2,h3⟩:=h
 exact⟨qs,s _ _ h1,h2,λj q hq=>s _ _ (h3 j q hq)⟩
theorem Za3.push {H:Hp}{l q:Addr}{n:Nat}{ps:Nat->Int×Int} (h:Za3 H l n ps) (hq:H q=some (.tup [.int (ps n).1,.int (ps n).2])):∃xs:List V,H l=some (.lst xs)/\xs.length=n/\Za3 (upd H l (.lst (xs++[.ref q]))) l (n+1) ps:=by
 obtain⟨qs,h1,h2,h3⟩:=h
 have hne:∀a o,H a=some (.tup o)->a≠l:=λa o ha z=>by rw[z,h1]at ha;cases ha
 refine⟨_,h1,by simp[h2],qs++[q],by rw[Zc];simp,by simp[h2],λj a ha=>?_⟩
 by_cases z:j<qs.length
 ·rw[YU z]at ha
  have:=h3 j a ha
  rw[Zh (hne _ _ this)];exact this
 ·have hj:=(Yp.mp ha).1
  rw[YD]at hj
  have:j=n:=by simp at hj;omega
  subst this
  rw[Y2 (by omega),h2]at ha
  simp at ha
  rw[<-ha,Zh (hne _ _ hq)];exact hq
theorem Zek {J:It}{n:Nat}{g:TG}{tb:TS}{D:Ends}{σ:St}{H:Hp} (Pv:Nat->St->Hp->Prop) (h0:Pv 0 σ H) (hgo:∀i σ H,i<n->Pv i σ H->J.go i H) (hstop:∀σ H,Pv n σ H->J.stop n H)
  (hs:∀i x σ H H',i<n->Pv i σ H->J.yld i H x H'->g x σ H' fun σ2 H2=>tb {D with nx:=Pv (i+1),ct:=Pv (i+1),bk:=D.nx} σ2 H2) (hd:∀σ H,Pv n σ H->D.nx σ H):Zf9 J g tb D σ H:=by
 refine⟨λi m σ H=>m=n-i/\i<=n/\Pv i σ H,⟨n,by simp,Yn _,h0⟩,?_⟩
 rintro i m σ H ⟨rfl,hi,p⟩
 by_cases hlt:i<n
 ·exact .inr ⟨hgo i σ H hlt p,Pv (i+1),fun σ' H' p'=>⟨n-(i+1),by omega,rfl,hlt,p'⟩,λx H' y=>hs i x σ H H' hlt p y⟩
 ·have:i=n:=by omega
  subst this
  exact .inl ⟨hstop σ H p,hd σ H p⟩
theorem Zpp (L:List Int):L=(List.range L.length).map λi=>L.getD i 0:=by
 refine List.ext_getElem (by simp) λj h1 h2=>?_
 simp[Yr,h1]
theorem ZgR {K:Frag}{a:Addr}{L:List Int}{H1:Hp}{Q:VK}{tt:TT}{σr:St} (P:Int->Bool) (ha:H1 a=some (.lst (L.map V.int))) (hn:L.length<=1000)
  (ht:∀(x:Int) (H:Hp) (R:Bool->Hp->Prop),R (P x) H->tt (some (V.int x)::σr) H R)
  (hk:∀l H',Zg H1 H'->H' l=none->Q (.ref l) (upd H' l (.lst ((L.filter P).map V.int)))) :
  Zga (Itl K a) (gName 0) tt (tVar 0) (none::σr) Q H1:=by
 refine ZgO (n:=L.length) (λi=>P (L.getD i 0)) (λi=>V.int (L.getD i 0)) (Yu hn (by decide)) (λi Hx s hi=>⟨_,_,SqL.of (s _ _ ha),Yi (by simpa using hi)⟩) (λHx s=>⟨_,SqL.of (s _ _ ha),by simp⟩) ?_ ?_
 ·rintro i x Hx Hy hi s ⟨rfl,hx⟩
  have ex:=hx _ (SqL.of (s _ _ ha))
  rw[YC,Yi hi]at ex
  cases ex
  have eg:L.getD i 0=L[i]:=by simp[Yr,hi]
  refine ht _ _ _ ?_
  cases hP:P L[i]with
  |true =>
   rw[Yc rfl]
   exact⟨_,rfl,CF.take hi (by rw[eg];exact hP) (by rw[eg]) s⟩
  |false =>
   rw[Yb (by simp)]
   exact CF.skip hi (by rw[eg];exact hP) s
 ·intro l H' s hl
  have:=hk l H' s hl
  have e:((List.range L.length).filter λi=>P (L.getD i 0)).map (λi=>V.int (L.getD i 0))=(L.filter P).map V.int:=by
   conv=>rhs;rw[Zpp L,List.filter_map,Y1]
   rfl
  rw[e];exact this
end L2
namespace PySem
open Sem (wp)
section
variable {prog:Program}{w:World}{A:Around}{E:Value->Shared->Prop}{s:Shared}
theorem L2.Zje {Q:List Value->Shared->Prop}{r:Addr}{a b c:Int}{t u v:Tok}{n:Nat} (hh:A.handled=none) (hr:IsRange s.heap r a b c t u v) (hsmall:Builtin.Range.small a b c=true)
  (hn:Builtin.Range.rangeSize a b c=n) (hlen:n<=2 ^ 24)
  (hQ:∀h' tk (acc':Array Value),(∀b o,s.heap.get? b=some o->h'.get? b=some o)->ItemsOf (λi v=>∃t,v=.int (a+i*c) t) acc' n->Q acc'.toList {s with heap:=h',toks:=tk}) :
  wpAny (model prog w) A (collect (.ref r)) Q E s:=by
 unfold collect
 refine Ya (wpAny_runValue (codeAny_builtin F.entry_proto_collect ?_))
 rw[Around.under_plainId F.plain_proto_collect _]
 show wpAny _ A.in1 (newList [] >>= λl=>again (.builtin "list.__iadd__" ⟨[l,.ref r],[]⟩)) _ _ s
 refine Ya (wpAny_newObj_type ?_)
 refine Ye ⟨plainId_quiet F.plain_list_iadd _,codeAny_builtin F.entry_list_iadd ?_⟩
 rw[Around.under_plainId F.plain_list_iadd _]
 show wpAny _ A.in1 (Builtin.List.listExtendWith (.ref s.heap.objs.size) (.ref r) (.ref s.heap.objs.size)) _ _ _
 have hS:(s.heap.push {cls:=.type "list",data:=.seq ([]:List Value).toArray}).get? s.heap.objs.size=some {cls:=.type "list",data:=.seq #[] 0}:=Ym _ rfl
 have kept:∀b o,s.heap.get? b=some o->b≠s.heap.objs.size/\(s.heap.push {cls:=.type "list",data:=.seq ([]:List Value).toArray}).get? b=some o:=λb o e=>⟨Yk (Yj e),Yg _ e⟩
 refine YB (wpAny_extend_range (A:=A) (R:=λq s'=>q=.ok (.ret (.ref s.heap.objs.size))/\∃(h':Heap) (tk:Nat) (acc':Array Value) (c':Nat),s'={s with heap:=h',toks:=tk}/\(∀b o,s.heap.get? b=some o->h'.get? b=some o)/\h'.get? s.heap.objs.size=some {cls:=.type "list",dict:=none,data:=.seq acc' c',slots:=#[]}/\ItemsOf (λi v=>∃t,v=.int (a+i*c) t) acc' n)
  (s:={s with heap:=s.heap.push {cls:=.type "list",data:=.seq ([]:List Value).toArray}}) hh (Yg _ hr) hsmall hn hlen _ (.ref s.heap.objs.size) 0 hS λh' tk acc' c' hk hS' hacc=>⟨rfl,h',tk,acc',c',rfl,λb o e=>hk b o (kept b o e).1 (kept b o e).2,hS',hacc⟩) (λfin s' h=>?_) (λe s' h=>?_)
 ·have fin':∀s':Shared,(∃(h':Heap) (tk:Nat) (acc':Array Value) (c':Nat),s'={s with heap:=h',toks:=tk}/\(∀b o,s.heap.get? b=some o->h'.get? b=some o)/\h'.get? s.heap.objs.size=some {cls:=.type "list",dict:=none,data:=.seq acc' c',slots:=#[]}/\ItemsOf (λi v=>∃t,v=.int (a+i*c) t) acc' n) ->
    wpAny (model prog w) A (match Value.ref s.heap.objs.size with
   |Value.ref a=>do
    match (<-load a).data with
     |Data.seq xs _=>pure xs.toList
     |_=>unsupported "internal:collect"
   |_=>unsupported "internal:collect") Q E s':=by
   rintro s' ⟨h',tk,acc',c',rfl,hk,hS',hacc⟩
   show wpAny _ A (load s.heap.objs.size >>= _) _ _ _
   refine Ya (wpAny_load hS' ?_)
   exact Ye (hQ h' tk acc' hk hacc)
  cases fin with
  |done f =>
   obtain⟨e,z⟩:=h
   cases e
   exact fin' _ z
  |again c'=>exact⟨h.1,codeAny_mono h.2 λr s'' hr=>by obtain⟨rfl,z⟩:=hr;exact fin' _ z⟩
 ·exact absurd h.1 (by simp)
theorem L2.ZgS {Q₁:Value->Shared->Prop}{r:Addr}{a b c:Int}{t u v:Tok}{n:Nat} (hh:A.handled=none) (hr:IsRange s.heap r a b c t u v) (hsmall:Builtin.Range.small a b c=true)
  (hn:Builtin.Range.rangeSize a b c=n) (hlen:n<=2 ^ 24)
  (h:∀(h':Heap) tk (acc:Array Value),(∀b o,s.heap.get? b=some o->h'.get? b=some o)->ItemsOf (λi v=>∃t,v=.int (a+i*c) t) acc n->Q₁ (.ref h'.objs.size) {s with heap:=h'.push {cls:=.type "tuple",data:=.seq acc},toks:=tk}) :
  codeAny (model prog w) A (.call (.builtin "tuple.__new__") ⟨[.type "tuple",.ref r],[]⟩) (wants Q₁ E) s:=by
 refine codeAny_of_tree ?_
 show wpAny _ A.in1 (do checkBuiltinCall "tuple.__new__" ⟨[.type "tuple",.ref r],[]⟩;again (.builtin "tuple.__new__" ⟨[.type "tuple",.ref r],[]⟩)) _ _ s
 refine Ya (wpAny_of_eq (F.newCall_tuple_1 _) (Ye ⟨plainId_quiet F.plain_tuple_new _,codeAny_builtin F.entry_tuple_new ?_⟩))
 rw[Around.under_plainId F.plain_tuple_new _]
 have hsub:=sub_tuple_self
 have hinit:=init_tuple_lookup
 have hmh:=madeHere_tuple
 have hTI:Shared.TypeIs s (.ref r) "range":=⟨_,hr,rfl⟩
 have hA:(A.in1).handled=none:=hh
 wp_walk using wpAny_typeOf hTI,L2.Zje (A:=A.in1) hA hr hsmall hn hlen
 intro h' tk acc hk hacc
 show wpAny _ _ (Builtin.Tuple.tupleExact acc.toList.toArray >>= λv=>ret v) _ _ _
 unfold Builtin.Tuple.tupleExact
 refine Ya (wpAny_newObj_type ?_ (by show acc.toList.toArray.size<=sizeLine;simp only[Array.toArray_toList];rw[hacc.1];rw[sizeLine_eq];omega))
 refine Ye ?_
 have e:acc.toList.toArray=acc:=by simp
 rw[e]
 exact h h' tk acc hk hacc
theorem L2.ZgT {Q:Value->Shared->Prop}{r:Addr}{a b c:Int}{t u v:Tok}{n:Nat} (hh:A.handled=none) (hr:IsRange s.heap r a b c t u v) (hsmall:Builtin.Range.small a b c=true)
  (hn:Builtin.Range.rangeSize a b c=n) (hlen:n<=2 ^ 24)
  (hQ:∀(h':Heap) tk (acc:Array Value),(∀b o,s.heap.get? b=some o->h'.get? b=some o)->ItemsOf (λi v=>∃t,v=.int (a+i*c) t) acc n->Q (.ref h'.objs.size) {s with heap:=h'.push {cls:=.type "tuple",data:=.seq acc},toks:=tk}) :
  wpAny (model prog w) A (call (.type "tuple") [.ref r]) Q E s:=by
 refine callType_codes (Q₁:=λobj s₁=>s₁.TypeIs obj "tuple"/\Q obj s₁) F.called_tuple (F.typeCall_tuple_1 _) F.entry_object_init
  (L2.ZgS hh hr hsmall hn hlen λh' tk acc hm hacc=>⟨⟨_,Ym _ rfl,rfl⟩,hQ h' tk acc hm hacc⟩) λobj s₁ h₁=>?_
 exact⟨h₁.1,F.args_object_init_2 obj _,object_init_meets F.called_tuple.init.lookup F.called_tuple.made (by decide) prog w A.in1 _ s₁ ⟨h₁.1,rfl,h₁.2⟩⟩
end
end PySem
namespace L2
open PySem PySem.Spec PyProof.Rows PySem.W
section
variable {X:Cx}
noncomputable def rTupR2:List V->Hp->VK->Prop:=λxs H Q=>∃p i j,xs=[.ref p]/\H p=some (.rng i j)/\-(2 ^ 62)<=i/\i<2 ^ 62/\-(2 ^ 62)<=j/\j<2 ^ 62/\j-i<=1000/\∀l,H l=none->Q (.ref l) (upd H l (.tup ((List.range (j-i).toNat).map λ(k:Nat)=>V.int (i+(k:Int)))))
theorem Zjf (hc:X.calm=true):ZbL X (.type "tuple") rTupR2:=by
 intro pins s σ H xs us Q I r h
 obtain⟨p,i,j,rfl,hp,h0,h1,h2,h3,h4,q⟩:=h
 obtain⟨u,rfl,ru⟩:=r.one
 cases(show u=Value.ref p from ru)
 obtain⟨t,u,v,hob⟩:=(show ∃t u v,s.heap.get? p=some {cls:=.type "range",data:=.fields #[.int i t,.int j u,.int 1 v]}from I.hok p _ hp)
 refine PySem.L2.ZgT (n:=(j-i).toNat) (I.ok.hd hc) hob (small_one (by omega) (by omega) (by omega) (by omega)) (by rw[rangeSize_one];split<;>omega) (by omega) λh' tk acc' kp hacc=>?_
 have hv:Vals ((List.range (j-i).toNat).map λ(k:Nat)=>V.int (i+(k:Int))) acc'.toList:=by
  exact ZmR (g:=λ(k:Nat)=>V.int (i+(k:Int))) (P:=λ(k:Nat) v=>∃t,v=.int (i+(k:Int)*1) t) (λk v h=>by obtain⟨t,e⟩:=h;exact⟨t,by rw[e];simp⟩) _ _ (by rw[YM];exact hacc.1) λk v hk=>hacc.2 k v (by simpa using hk)
 have I1:Inv X pins σ H {s with heap:=h',toks:=tk}:=I.kept (t':=tk) kp
 have hz:(List.map (λ(k:Nat)=>V.int (i+(k:Int))) (List.range (j-i).toNat)).length<=sizeLine:=by rw[Yh,YZ];exact Yf (show(j-i).toNat<=1000 by omega) (by decide)
 have I2:Inv X pins σ (upd H h'.objs.size (.tup ((List.range (j-i).toNat).map λ(k:Nat)=>V.int (i+(k:Int))))) {s with heap:=h'.push {cls:=.type "tuple",data:=.seq acc'},toks:=tk} :=
  I1.laid (t':=tk) (λb o e=>Yg _ e) (Yd _) (show ZS X.prog X.w _ _ _ (.tup _)from⟨hz,acc'.toList,hv,IsTup.new _ _⟩)
 exact⟨.ref h'.objs.size,_,I2,rfl,q _ (I1.hok.fresh (Yd _))⟩
end
theorem seqIx {a n:Nat} (h:a<n):seqIndex? (a:Int) n=some a:=by
 unfold seqIndex?
 simp
 omega
theorem Zgj {f:Nat->Int}{n p:Nat} (hp:p<n):-1<=ZaX f p/\ZaX f p<p/\(p:Int)<Za1 f n p/\Za1 f n p<=n:=by
 obtain⟨hA,hB⟩:=ZaP (Zhe (f:=f) hp)
 have a1:-1<=ZaX f p/\ZaX f p<p:=by
  rcases hA with hA|⟨q,hA⟩
  ·rw[ZcH hA];omega
  ·rw[Zai hA];have:=hA.1;omega
 have a2:(p:Int)<Za1 f n p/\Za1 f n p<=n:=by
  rcases hB with hB|⟨q,hB⟩
  ·rw[Zb5 hB];omega
  ·rw[Zaj hB];have:=hB.1;have:=hB.2.1;omega
 exact⟨a1.1,a1.2,a2.1,a2.2⟩
noncomputable def Za8 (T:List Int):Nat->Int->Prop
 |0,a=>a=-1
 |k+1,a=>a=-1\/(0<=a/\a<T.length/\Za8 T k (nth T a.toNat))
theorem Zmi (T:List Int) (k:Nat):Za8 T k (-1):=by cases k<;>simp[Za8]
theorem Zel (T:List Int):∀k a,Za8 T k a->Za8 T (k+1) a
 |0,a,h=>.inl h
 |k+1,a,h=>by
  rcases h with h|⟨h1,h2,h3⟩
  ·exact .inl h
  ·exact .inr ⟨h1,h2,Zel T k _ h3⟩
theorem pmz3:(0:Int)<10 ^ Int.toNat 64*10 ^ Int.toNat 64*10 ^ Int.toNat 64:=by decide +kernel
theorem ZmW {K:Frag}{Hx:Hp}{l q:Addr}{L:List Nat} (h1:Hx l=some (.lst (ZR L))) (h2:Hx q=some (.lst [])):EqD K Hx 3 (V.ref l) (V.ref q) (decide (L=[])):=by
 have hh:=ZmQ (n:=2) (K:=K) (H:=Hx) Zgb (V.ref l) (V.ref q) (L.map λ(q:Nat)=>(q:Int)) [] (Zgc (SqL.of (by rw[h1];simp[ZR,Function.comp_def]))) (Zgc (ns:=[]) (SqL.of h2))
 have e:decide (L.map (λ(q:Nat)=>(q:Int))=[])=decide (L=[]):=by cases L<;>simp
 rw[e]at hh;exact hh
noncomputable def CDivL (i j:Int):Prop:=0<j/\j<18446744073709551616
theorem Zio {X:Cx}:OpR X (binaryOp .FloorDiv) (rI CDivL λi j=>.int (i / j)):=opI λi j _ _ _ _ _ hc q=>by
 have h1:(0:Int)<j:=hc.1
 have h2:j<18446744073709551616:=hc.2
 refine floordiv_int (by omega) (by rw[Int.fdiv_eq_ediv_of_nonneg i (by omega)];exact q) (.inl (PyProof.noPylong_of_log2 ?_))
 have h3:j.natAbs<2 ^ 64:=by omega
 have:j.natAbs.log2<64:=(Nat.log2_lt (by omega)).mpr h3
 omega
end L2
namespace L2
theorem snoc_cases {α:Type} (xs:List α):xs=[]\/∃ys y,xs=ys++[y]:=by
 rcases List.eq_nil_or_concat xs with h|⟨ys,y,h⟩
 ·exact .inl h
 ·exact .inr ⟨ys,y,by rw[h,List.concat_eq_append]⟩
end L2
namespace L2
open PySem PySem.Spec PyProof.Rows PySem.W
end L2
namespace L2
open PySem PySem.Spec PyProof.Rows PySem.W
noncomputable def TupsAt (H:Hp) (l:Addr) (rs:List (List Int)):Prop:=∃as:List Addr,H l=some (.lst (as.map V.ref))/\as.length=rs.length/\∀i (h1:i<as.length) (h2:i<rs.length),H as[i]=some (.tup (rs[i].map V.int))
noncomputable def Once (k:Nat) (ss ls:List Int):Prop:=ss=((List.range k).map λ(j:Nat)=>(j:Int)).filter (λj=>decide (j∉ls))/\ls=((List.range k).map λ(j:Nat)=>(j:Int)).filter (λj=>decide (j∈ls))
noncomputable instance (k:Nat) (ss ls:List Int):Decidable (Once k ss ls):=inferInstanceAs (Decidable (_/\_))
section
variable {N:Nat}{k:Nat->Int}{cmp:Nat->Nat->(Bool->Shared->Prop)->Shared->Prop}{s:Shared}{p:Array Nat}
noncomputable def kk (k:Nat->Int) (p:Array Nat) (i:Nat):Int:=k (p.getD i 0)
end
theorem ZhI:isSubtype (.type "range_iterator") (.type "reversed")=pure false:=by rw[isSubtype_type];kernel_rfl
section
variable {prog:Program}{w:World}{A:Around}{E:Value->Shared->Prop}{s:Shared}
noncomputable def Ziq (a n:Int):Obj:={cls:=.type "range_iterator",data:=.fields #[rawInt a,rawInt n,rawInt (-1)]}
noncomputable def Zdk (a b:Int):Prop:=(Builtin.Range.rangeFitsLong a&&Builtin.Range.rangeFitsLong b&&Builtin.Range.rangeFitsLong 1&&Builtin.Range.rangeFitsLong (-1)&&Builtin.Range.rangeFitsLong (a-1)&&Builtin.Range.rangeFitsLong (Builtin.Range.rangeSize a b 1))=true
theorem Zir {r:Addr}{a b:Int}{t u v:Tok}{Q:Value->Shared->Prop} (hr:IsRange s.heap r a b 1 t u v) (hsm:Zdk a b)
  (h:Q (.ref s.heap.objs.size) {s with heap:=s.heap.push (Ziq (a+(Builtin.Range.rangeSize a b 1-1)*1) (Builtin.Range.rangeSize a b 1))}):wpAny (model prog w) A (call (.builtin "range.__reversed__") [.ref r]) Q E s:=by
 have hT:s.TypeIs (.ref r) "range":=⟨_,hr,rfl⟩
 have hr':s.heap.get? r=some {cls:=.type "range",dict:=none,data:=.fields #[.int a t,.int b u,.int 1 v],slots:=#[]}:=hr
 refine wpAny_call_entry F.slot_range_reversed hT F.entry_range_reversed ?_ (F.args_range_reversed_1 _)
 unfold Builtin.«range.__reversed__»
 refine Ya (wpAny_of_eq (a:=Value.ref r) rfl ?_)
 obtain⟨hp,g,d,tk,os⟩:=s
 have hl:=hr'
 unfold Zdk at hsm
 simp only[Builtin.Range.rangeFields]
 wp_walk
 refine⟨_,rfl,?_⟩
 unfold Ziq at h
 dsimp only at h⊢
 rw[Yc hsm]
 exact h
theorem Zgk {r:Addr}{a b:Int}{t u v:Tok}{Q₁:Value->Shared->Prop} (hr:IsRange s.heap r a b 1 t u v) (hsm:Zdk a b)
  (h:Q₁ (.ref s.heap.objs.size) {s with heap:=s.heap.push (Ziq (a+(Builtin.Range.rangeSize a b 1-1)*1) (Builtin.Range.rangeSize a b 1))}) :
  codeAny (model prog w) A (.call (.builtin "reversed.__new__") ⟨[.type "reversed",.ref r],[]⟩) (wants Q₁ E) s:=by
 have hT:s.TypeIs (.ref r) "range":=⟨_,hr,rfl⟩
 refine codeAny_of_tree ?_
 show wpAny _ A.in1 (do checkBuiltinCall "reversed.__new__" ⟨[.type "reversed",.ref r],[]⟩;again (.builtin "reversed.__new__" ⟨[.type "reversed",.ref r],[]⟩)) _ _ s
 refine Ya (wpAny_of_eq (F.newCall_reversed_1 _) (Ye ⟨plainId_quiet F.plain_reversed_new _,codeAny_builtin F.entry_reversed_new ?_⟩))
 rw[Around.under_plainId F.plain_reversed_new _]
 unfold Builtin.«reversed.__new__»
 refine Ya (wpAny_of_eq (newClass_reversed _) ?_)
 try dsimp only
 refine Ya (wpAny_of_eq (a:=()) (by first|rfl|kernel_rfl) ?_)
 refine Ya (wpAny_of_eq (a:=()) (by first|rfl|kernel_rfl) ?_)
 try dsimp only
 refine Ya (wpAny_specialOf hT F.slot_range_reversed.lookup ?_)
 try dsimp only
 refine Ya (wpAny_of_eq (F.slot_range_reversed.bind _) ?_)
 try dsimp only
 first
 |rw[Yb (show ¬ ((Value.builtin "range.__reversed__"==Value.none)=true)from Yw)]
 |(show wpAny _ _ (if (Value.builtin "range.__reversed__"==Value.none)=true then _ else _) _ _ _;rw[Yb (show ¬ ((Value.builtin "range.__reversed__"==Value.none)=true)from Yw)])
 refine Ya (wpAny_rule ?_)
 refine Ya (m:=runValue (.call (.builtin "range.__reversed__") ⟨[.ref r],[]⟩)) (show wpAny _ _ (call (.builtin "range.__reversed__") [.ref r]) _ _ _ from Zir hr hsm ?_)
 first
 |exact Ye h
 |exact Ya (Ye (Ye h))
theorem Zgl {r:Addr}{a b:Int}{t u v:Tok}{Q:Value->Shared->Prop} (hr:IsRange s.heap r a b 1 t u v) (hsm:Zdk a b)
  (h:Q (.ref s.heap.objs.size) {s with heap:=s.heap.push (Ziq (a+(Builtin.Range.rangeSize a b 1-1)*1) (Builtin.Range.rangeSize a b 1))}):wpAny (model prog w) A (call (.type "reversed") [.ref r]) Q E s:=by
 refine callType_other (U:="range_iterator") (Q₁:=λobj s₁=>obj=.ref s.heap.objs.size/\s₁={s with heap:=s.heap.push (Ziq (a+(Builtin.Range.rangeSize a b 1-1)*1) (Builtin.Range.rangeSize a b 1))}) (by decide +kernel) F.create_reversed ⟨_,_,F.mro_reversed⟩ F.made_reversed ZhI (F.typeCall_reversed_1 _) (Zgk hr hsm ⟨rfl,rfl⟩) ?_
 rintro obj s₁ ⟨rfl,rfl⟩
 exact⟨⟨_,Ym _ rfl,rfl⟩,h⟩
end
theorem ZnG {a b:Int} (ha:-(2 ^ 62)<=a) (ha':a<2 ^ 62) (hb:-(2 ^ 62)<=b) (hb':b<2 ^ 62):Zdk a b:=by
 unfold Zdk
 rw[rangeSize_one]
 simp only[Builtin.Range.rangeFitsLong,Bool.and_eq_true,Bool.or_eq_true,decide_eq_true_eq,beq_iff_eq]
 split<;>omega
noncomputable def Itrv (lo:Int) (n:Nat):It:=⟨λi _=>i<n,λi H x H'=>H'=H/\x=.int (lo+n-1-i),λi _=>n<=i⟩
theorem Zhh {P:Program}{w:World}{K:PySem.W.Frag}{tg:Expr} (it:Addr) (lo:Int) (n:Nat):Turn P w K tg (Itrv lo n) [it] it (λi h=>IsRangeIter h it (lo+n-1+(i:Nat)*(-1)) ((n:Int)-(i:Nat)) (-1)) where
 mem:=by simp
 obj:=λi h st b hb=>by
  have e:b=it:=by simpa using hb
  subst e
  exact⟨_,st,λv z=>by
   have z':Data.fields _=Data.cell v:=z
   cases z'⟩
 keep:=λi h h' st k=>k it (by simp) _ st
 item:=by
  intro X hP hw hK hc i pins s σ H E I hf st hg
  subst hP hw hK
  obtain⟨f0,f1,f2,f3,f4,f5⟩:=hf it (by simp)
  have W:=Walks.range (prog:=X.prog) (w:=X.w) (I.ok.hd hc) it (lo+n-1) (-1) n
  refine W.item i s _ _ hg st λv h' tk hv st' kk=>?_
  obtain⟨t,rfl⟩:=hv
  have I1:Inv X pins σ H {s with heap:=h',toks:=tk}:=I.turned (λb o hb e=>kk b o (by simpa using hb) e) f0 f1 f3 f4 f5
  refine⟨_,rfl,ZmG (s:={s with heap:=h',toks:=tk}) (n:="range_iterator") st' rfl rfl (by decide) ⟨.int (lo+n-1-i),H,I1,⟨t,?_⟩,⟨rfl,rfl⟩,st',λb hb=>(hf b hb).1⟩⟩
  congr 1;omega
 done:=by
  intro X hP hw hK hc i pins s σ H E I hf st hg
  subst hP hw hK
  obtain⟨f0,f1,f2,f3,f4,f5⟩:=hf it (by simp)
  exact wpAny_pyNext_range_end (I.ok.hd hc) st (by have:n<=i:=hg;omega) λh' eb=>⟨rfl,I.turned (t':=s.toks) (λb o hb e=>eb b o hb e) f0 f1 f3 f4 f5⟩
 self:=λ_ _ _ _ _ st h=>wpAny_pyIter_rangeiter st h
section
variable {X:Cx}{tg:Expr}
noncomputable def iRevR (ta:TA):TI:=fun σ H R=>ta σ H λvs H1=>∃(a:Addr) (lo hi:Int),vs=[.ref a]/\H1 a=some (.rng lo hi)/\-(2 ^ 62)<=lo/\lo<2 ^ 62/\-(2 ^ 62)<=hi/\hi<2 ^ 62/\R (Itrv lo (hi-lo).toNat) H1
theorem Zrv {e:Expr}{ta:TA}{p pos:Pos} (hg:Gl X "reversed") (hm:X.mg "reversed"=none) (ha:PA X [e] ta) (hs:starEach [e] X.env=[(false,eval e X.env)]:=by rfl):PI X tg (.Call (.Name "reversed" p) [e] [] pos) (iRevR ta):=by
 intro pins s σ H R I h
 refine wpAny_Call_Name_kw (ZaW I hg hm PyProof.Rows.boot_reversed ?_)
 refine PyProof.Rows.callWith_type1 (thn (ha pos pins s σ H _ I h) λus s1 ⟨vs,H1,I1,r1,a,lo,hi,e1,hq,h1,h2,h3,h4,q⟩=>?_) hs (by rfl)
 subst e1
 obtain⟨u,rfl,ru⟩:=r1.one
 cases(show u=Value.ref a from ru)
 obtain⟨t,u,v,hob⟩:=(show ∃t u v,s1.heap.get? a=some {cls:=.type "range",data:=.fields #[.int lo t,.int hi u,.int 1 v]}from I1.hok a _ hq)
 refine Zgl hob (ZnG h1 h2 h3 h4) ?_
 refine wpAny_pyIter_rangeiter (it:=s1.heap.objs.size) (x:=lo+(Builtin.Range.rangeSize lo hi 1-1)*1) (left:=Builtin.Range.rangeSize lo hi 1) (step:=-1) (Ym _ rfl) ?_
 refine⟨s1.heap.objs.size,[s1.heap.objs.size],_,_,H1,rfl,I1.kept (t':=s1.toks) λb o e=>Yg _ e,Zhh _ lo (hi-lo).toNat,?_,λb hb=>?_,q⟩
 ·have e2:(((hi-lo).toNat:Nat):Int)-((0:Nat):Int)=Builtin.Range.rangeSize lo hi 1:=by rw[rangeSize_one];split<;>omega
  have e1:lo+((hi-lo).toNat:Nat)-1+((0:Nat):Int)*(-1)=lo+(Builtin.Range.rangeSize lo hi 1-1)*1:=by rw[<-e2];omega
  show IsRangeIter _ _ (lo+((hi-lo).toNat:Nat)-1+((0:Nat):Int)*(-1)) ((((hi-lo).toNat:Nat):Int)-((0:Nat):Int)) (-1)
  rw[e1,e2]
  exact Ym _ rfl
 ·have e:b=s1.heap.objs.size:=by simpa using hb
  subst e
  exact I1.Zh4 (Yd _) (I1.hok.fresh (Yd _))
end
end L2
namespace L2
noncomputable def Zax:List Int->Int->Nat×Int
 |[],x=>(0,x)
 |a::ws,x=>if a<=x then ((Zax ws (x-a)).1+1,(Zax ws (x-a)).2)else (0,x)
theorem Zla:∀(ws:List Int) (x:Int),0<=x->x<ws.sum->(Zax ws x).1<ws.length/\0<=(Zax ws x).2/\(Zax ws x).2<ws.getD (Zax ws x).1 0
 |[],x,h0,h1=>by simp at h1;omega
 |a::ws,x,h0,h1=>by
  rw[List.sum_cons]at h1
  unfold Zax
  by_cases h:a<=x
  ·rw[Yc h]
   have ih:=Zla ws (x-a) (by omega) (by omega)
   refine⟨by simp;omega,ih.2.1,?_⟩
   simpa using ih.2.2
  ·rw[Yb h]
   exact⟨by simp,h0,by simp;omega⟩
theorem Zmj {ws:List Int}{i:Nat}{x a:Int} (h:ws[i]?=some a):Zax (ws.drop i) x=if a<=x then ((Zax (ws.drop (i+1)) (x-a)).1+1,(Zax (ws.drop (i+1)) (x-a)).2)else (0,x):=by
 obtain⟨h1,h2⟩:=Yp.mp h
 rw[List.drop_eq_getElem_cons h1,h2];rfl
end L2
namespace L2
open PySem PySem.Spec PyProof.Rows PySem.W
end L2
namespace L2
theorem Zfn:∀(ws:List Int) (x:Int),x=(ws.take (Zax ws x).1).sum+(Zax ws x).2
 |[],x=>by simp[Zax]
 |a::ws,x=>by
  unfold Zax
  by_cases h:a<=x
  ·rw[Yc h]
   have:=Zfn ws (x-a)
   show x=((a::ws).take ((Zax ws (x-a)).1+1)).sum+_
   rw[List.take_succ_cons,List.sum_cons]
   omega
  ·rw[Yb h];simp
noncomputable def Ok:Nat->List Nat->Prop
 |_,[]=>True
 |st,d::ds=>d<=st/\Ok (st-d+1) ds
end L2
namespace L2
open PySem PySem.Spec PyProof.Rows PySem.W
end L2
namespace L2
open PySem PySem.Spec PyProof.Rows PySem.W
noncomputable def Zgm (P:Program) (w:World) (K:Frag) (mg:Str->Option Value) (base:Heap) (c:Str) (k:Nat) (ps:List Str) (sp:Sp):Prop :=
 ∃f fd,Mk K (clsAt mg c) f/\mg c=some (.ref (clsAt mg c))/\Binds K fd ps []/\FnOk P w K mg base (CXE P w) k f fd ps sp
noncomputable def Zah (P:Program) (w:World) (K:Frag) (mg:Str->Option Value) (base:Heap) (c m:Str) (k:Nat) (ps:List Str) (sp:Sp):Prop :=
 ∃f fd,Cls K (clsAt mg c)/\Meth K (clsAt mg c) m f/\Binds K fd ps []/\FnOk P w K mg base (CXE P w) k f fd ps sp
section
variable {X:Cx}{a:Expr}{ta:TE}{pos:Pos}
noncomputable def tFldC (C:Addr) (ta:TE) (f:Str):TE:=fun σ H Q=>ta σ H λx H1=>∃(o dx:Addr) (fs:List (Str×V)) (v:V),x=.ref o/\H1 o=some (.ins C dx fs)/\fs.lookup f=some v/\Q v H1
theorem Z2 {K:Frag}{C:Addr}{f:Str} (hK:X.K=K) (c:Cls K C) (n:NoAttr K C f) (he:PE X a ta) (hb:attributeBase a f X.env (eval a X.env)=eval a X.env:=by rfl):PE X (.Attribute a f pos) (tFldC C ta f):=by
 subst hK
 intro pins s σ H Q I h
 refine Zq6 hb (thn (he pins s σ H _ I h) λu s1 ⟨x,H1,I1,rx,o,dx,fs,v,ex,ea,l,q⟩=>?_)
 subst ex
 obtain rfl:u=Value.ref o:=rx
 exact ZlZ I1 ea c n l λu' s2 I2 ru=>⟨v,H1,I2,ru,q⟩
noncomputable def sFldC (C:Addr) (ta tv:TE) (f:Str):TS:=λD σ H=>tv σ H λy H1=>ta σ H1 λx H2=>∃(o dx:Addr) (fs:List (Str×V)),x=.ref o/\H2 o=some (.ins C dx fs)/\fs.length<1000/\D.nx σ (upd H2 o (.ins C dx (Za5 f y fs)))
theorem Zfo {K:Frag}{C:Addr}{f:Str}{value:Expr}{tv:TE}{pos':Pos} (hK:X.K=K) (c:Cls K C) (n:NoAttr K C f) (ha:PE X a ta) (hv:PE X value tv) (hs:swapsWith value (some (.Attribute a f pos')) pos.line X.env=pure false:=by rfl):PS X (.Assign [.Attribute a f pos'] value pos) (sFldC C ta tv f):=by
 subst hK
 intro pins s σ H D I h
 refine plainObj_wpAny_Assign_Attribute (thn (hv pins s σ H _ I h) λu s1 ⟨y,H1,I1,ry,q⟩=>thn (ha pins s1 σ H1 _ I1 q) λov s2 ⟨x,H2,I2,rx,o,dx,fs,ex,ea,l,q2⟩=>?_) hs
 subst ex
 obtain rfl:ov=Value.ref o:=rx
 exact Zl0 I2 ea c n l ry λs3 I3=>⟨σ,_,I3,q2⟩
theorem Zis {x:Str}{k:Nat}{ps:List Str}{sp:Sp}{E:XK}{e:Expr}{es:List Expr}{t:TA}{p:Pos}{mg:Str->Option Value} (hmg:X.mg=mg) (C:Zgm X.prog X.w X.K mg X.base x k ps sp) (hr:Room (k+1) X.A) (hg:Gl X x) (hx:Passes (CXE X.prog X.w) X E)
  (ha:PA X (e::es) t) (hdb:(x==("__debug__":Str))=false:=by decide) (he:starEach (e::es) X.env=(false,eval e X.env)::starEach es X.env:=by rfl) (hpl:(backTo pos (starEach es X.env)).any (·.1)=false:=by rfl) :
  PE X (.Call (.Name x p) (e::es) [] pos) (tMake (clsAt mg x) sp [] E t):=by
 subst hmg
 obtain⟨f,fd,hM,hm,hb,F⟩:=C
 exact Zq9 hM F hr hg hm hb .nil hx ha hdb he hpl
theorem Zem {c m:Str}{k:Nat}{ps:List Str}{sp:Sp}{E:XK}{e:Expr}{es:List Expr}{t:TA}{apos:Pos}{mg:Str->Option Value} (hmg:X.mg=mg) {pl:Sem Bool} (C:Zah X.prog X.w X.K mg X.base c m k ps sp) (hr:Room k X.A) (hx:Passes (CXE X.prog X.w) X E) (he:PE X a ta)
  (ha:PA X (e::es) t) (hst:starEach (e::es) X.env=(false,eval e X.env)::starEach es X.env:=by rfl) (hpl:(backTo pos (starEach es X.env)).any (·.1)=false:=by rfl)
  (ht:eval (.Call (.Attribute a m apos) (e::es) [] pos) X.env=(do
   let ov <-eval a X.env
   standAt apos.atName
   let (f,first) <-holding [ov] (getMethod ov m pl)
   callWith pos f first (backTo pos (starEach (e::es) X.env)) (backToKw pos (keywordEach [] X.env))):=by rfl) :
  PE X (.Call (.Attribute a m apos) (e::es) [] pos) (tMeth (clsAt mg c) m sp [] E ta t):=by
 subst hmg
 obtain⟨f,fd,hc,hm,hb,F⟩:=C
 exact Zq8 he hc hm F hr hb .nil hx ha hst hpl ht
theorem Zfp {c m:Str}{k:Nat}{ps:List Str}{sp:Sp}{E:XK}{apos:Pos}{mg:Str->Option Value} (hmg:X.mg=mg) {pl:Sem Bool} (C:Zah X.prog X.w X.K mg X.base c m k ps sp) (hr:Room k X.A) (hx:Passes (CXE X.prog X.w) X E) (he:PE X a ta)
  (ht:eval (.Call (.Attribute a m apos) [] [] pos) X.env=(do
   let ov <-eval a X.env
   standAt apos.atName
   let (f,first) <-holding [ov] (getMethod ov m pl)
   callWith pos f first (backTo pos (starEach [] X.env)) (backToKw pos (keywordEach [] X.env))):=by rfl) :
  PE X (.Call (.Attribute a m apos) [] [] pos) (tMeth (clsAt mg c) m sp [] E ta tNil):=by
 subst hmg
 obtain⟨f,fd,hc,hm,hb,F⟩:=C
 exact ZoU he hc hm F hr hb .nil hx ht
end
end L2
namespace L2
open PySem PySem.Spec PyProof.Rows
section
variable {κ:Type} [DecidableEq κ]
noncomputable def Zak (kvs:List (κ×V)) (k:κ):Option V:=(kvs.find? λkv=>decide (kv.1=k)).map (·.2)
noncomputable def putK (kvs:List (κ×V)) (k:κ) (v:V):List (κ×V) :=
 if (kvs.any λkv=>decide (kv.1=k))=true then kvs.map (λkv=>if kv.1=k then (kv.1,v)else kv)else kvs++[(k,v)]
theorem ZaH {p:κ×V}{r:List (κ×V)}{k:κ} (e:p.1=k):Zak (p::r) k=some p.2:=by simp[Zak,List.find?_cons,e]
theorem ZaI {p:κ×V}{r:List (κ×V)}{k:κ} (e:¬ p.1=k):Zak (p::r) k=Zak r k:=by simp[Zak,List.find?_cons,e]
theorem Zen (k:κ):∀kvs:List (κ×V),(kvs.any λkv=>decide (kv.1=k))=(Zak kvs k).isSome
 |[]=>rfl
 |p::r=>by
  rw[List.any_cons]
  by_cases e:p.1=k
  ·simp only[ZaH e,YL e,Bool.true_or,Option.isSome_some]
  ·rw[ZaI e,YJ e,Bool.false_or];exact Zen k r
theorem Zlb (k j:κ) (y:V):∀kvs:List (κ×V),Zak (kvs.map λkv=>if kv.1=k then (kv.1,y)else kv) j=(Zak kvs j).map λx=>if j=k then y else x
 |[]=>rfl
 |p::r=>by
  have ih:=Zlb k j y r
  rw[YF]
  by_cases h:p.1=k
  ·rw[Yc h]
   by_cases e:p.1=j
   ·rw[ZaH (p:=(p.1,y)) e,ZaH e,Option.map_some,Yc (e.symm.trans h)]
   ·rw[ZaI (p:=(p.1,y)) e,ZaI e,ih]
  ·rw[Yb h]
   by_cases e:p.1=j
   ·rw[ZaH (p:=p) e,ZaH e,Option.map_some,Yb (λz=>h (e.trans z))]
   ·rw[ZaI (p:=p) e,ZaI e,ih]
theorem ZjN (k j:κ) (y:V):∀kvs:List (κ×V),Zak kvs k=none->Zak (kvs++[(k,y)]) j=if j=k then some y else Zak kvs j
 |[],_=>by
  by_cases e:k=j
  ·rw[Yc e.symm];exact ZaH (p:=(k,y)) e
  ·rw[Yb (λz=>e z.symm)];exact ZaI (p:=(k,y)) e
 |p::r,hn=>by
  rw[List.cons_append]
  have hk:¬ p.1=k:=λz=>by rw[ZaH z]at hn;cases hn
  rw[ZaI hk]at hn
  have ih:=ZjN k j y r hn
  by_cases e:p.1=j
  ·rw[ZaH e,ZaH e,Yb (λz=>hk (e.trans z))]
  ·rw[ZaI e,ZaI e,ih]
theorem Zcn (kvs:List (κ×V)) (k j:κ) (y:V):Zak (putK kvs k y) j=if j=k then some y else Zak kvs j:=by
 unfold putK
 by_cases a:(kvs.any λkv=>decide (kv.1=k))=true
 ·rw[Yc a,Zlb]
  rw[Zen]at a
  by_cases e:j=k
  ·obtain⟨x,hx⟩:=Option.isSome_iff_exists.mp a
   rw[Yc e,e,hx,Option.map_some,Yc rfl]
  ·rw[Yb e]
   cases Zak kvs j with
   |none=>rfl
   |some x=>rw[Option.map_some,Yb e]
 ·rw[Yb a]
  refine ZjN k j y kvs ?_
  rw[Zen]at a
  cases q:Zak kvs k with
  |none=>rfl
  |some x=>rw[q]at a;exact(a rfl).elim
theorem ZbQ (kvs:List (κ×V)) (k:κ) (v:V):(putK kvs k v).length<=kvs.length+1:=by
 unfold putK
 split
 ·rw[Yh];omega
 ·rw[YD,Yq,List.length_nil];omega
theorem Zd6.ZgU {o:Option V}{u:Option Value} (r:Zd6 o u):o.isSome=u.isSome:=by
 cases o with
 |none=>cases u with
  |none=>rfl
  |some _=>exact(show False from r).elim
 |some _=>cases u with
  |none=>exact(show False from r).elim
  |some _=>rfl
theorem KV.val {kvs:List (κ×V)}{vs:List (κ×Value)} (r:KV kvs vs) (k:κ):Zd6 (Zak kvs k) (valueAt vs k):=by
 unfold KV at r
 induction r with
 |nil=>exact True.intro
 |@cons p q ps qs h t ih =>
  obtain⟨h1,h2⟩:=h
  by_cases e:p.1=k
  ·have e':q.1=k:=h1.symm.trans e
   have b:valueAt (q::qs) k=some q.2:=by simp[valueAt,List.find?_cons,e']
   rw[ZaH e,b];exact h2
  ·have e':¬ q.1=k:=λz=>e (h1.trans z)
   have b:valueAt (q::qs) k=valueAt qs k:=by simp[valueAt,List.find?_cons,e']
   rw[ZaI e,b];exact ih
theorem KV.any {kvs:List (κ×V)}{vs:List (κ×Value)} (r:KV kvs vs) (k:κ):(kvs.any λkv=>decide (kv.1=k))=vs.any λkv=>decide (kv.1=k):=by
 unfold KV at r
 induction r with
 |nil=>rfl
 |cons h t ih=>rw[List.any_cons,List.any_cons,ih,h.1]
theorem KV.repl {kvs:List (κ×V)}{vs:List (κ×Value)} (r:KV kvs vs) (k:κ) {y:V}{u:Value} (ry:RelV y u) :
  KV (kvs.map λkv=>if kv.1=k then (kv.1,y)else kv) (vs.map λkv=>if kv.1=k then (kv.1,u)else kv):=by
 unfold KV at r⊢
 induction r with
 |nil=>exact .nil
 |@cons p q ps qs h t ih =>
  rw[YF,YF]
  refine .cons ?_ ih
  obtain⟨h1,h2⟩:=h
  by_cases e:p.1=k
  ·rw[Yc e,Yc (h1.symm.trans e)];exact⟨h1,ry⟩
  ·rw[Yb e,Yb (λz=>e (h1.trans z))];exact⟨h1,h2⟩
theorem KV.put {kvs:List (κ×V)}{vs:List (κ×Value)} (r:KV kvs vs) (k:κ) {y:V}{u:Value} (ry:RelV y u):KV (putK kvs k y) (stored vs k u):=by
 unfold putK stored
 rw[r.any k]
 by_cases e:(vs.any λkv=>decide (kv.1=k))=true
 ·rw[Yc e,Yc e];exact r.repl k ry
 ·rw[Yb e,Yb e];exact Paired.snoc r ⟨rfl,ry⟩
theorem KV.length {kvs:List (κ×V)}{vs:List (κ×Value)} (r:KV kvs vs):kvs.length=vs.length:=Paired.length r
end
theorem ZmX {P:Program}{w:World}{k:Key}{u:Value} (r:RelV (kV k) u):(ZaE P w).is k u=true:=by
 cases k with
 |inl i=>obtain⟨t,e⟩:=(show ∃t,u=Value.int i t from r);subst e;exact ZkP P w i t
 |inr x=>obtain⟨t,e⟩:=(show ∃t,u=Value.str x t from r);subst e;exact ZkQ P w x t
theorem ZjO {P:Program}{w:World}:∀{ks:List Key}{us:List Value},Vals (ks.map kV) us->ItemsAre (ZaE P w) ks us
 |[],_,r=>by rw[List.map_nil]at r;cases r;exact .nil
 |k::ks,_,r=>by
  rw[YF]at r
  cases r with
  |cons h t=>exact .cons (ZmX h) (ZjO t)
noncomputable abbrev KT (H:Hp):List (List Key×V)->List (List Key×Addr×Value)->Prop:=Paired λp q=>p.1=q.1/\H q.2.1=some (.tup (p.1.map kV))/\RelV p.2 q.2.2
theorem KT.val {H:Hp}{kvs:List (List Key×V)}{xs:List (List Key×Addr×Value)} (r:KT H kvs xs) (k:List Key):Zd6 (Zak kvs k) ((atKey xs k).map (·.2)):=by
 induction r with
 |nil=>exact True.intro
 |@cons p q ps qs h t ih =>
  obtain⟨h1,_,h2⟩:=h
  by_cases e:p.1=k
  ·have e':q.1=k:=h1.symm.trans e
   have b:atKey (q::qs) k=some q.2:=by simp[atKey,List.find?_cons,e']
   rw[ZaH e,b];exact h2
  ·have e':¬ q.1=k:=λz=>e (h1.trans z)
   have b:atKey (q::qs) k=atKey qs k:=by simp[atKey,List.find?_cons,e']
   rw[ZaI e,b];exact ih
theorem KT.repl {H:Hp}{kvs:List (List Key×V)}{xs:List (List Key×Addr×Value)} (r:KT H kvs xs) (k:List Key) {y:V}{u:Value} (ry:RelV y u) :
  KT H (kvs.map λkv=>if kv.1=k then (kv.1,y)else kv) (xs.map (putAt k u)):=by
 induction r with
 |nil=>exact .nil
 |@cons p q ps qs h t ih =>
  rw[YF,YF]
  refine .cons ?_ ih
  obtain⟨h1,h2,h3⟩:=h
  unfold putAt
  by_cases e:p.1=k
  ·rw[Yc e,Yc (h1.symm.trans e)];exact⟨h1,h2,ry⟩
  ·rw[Yb e,Yb (λz=>e (h1.trans z))];exact⟨h1,h2,h3⟩
theorem KT.put {H:Hp}{kvs:List (List Key×V)}{xs:List (List Key×Addr×Value)} (r:KT H kvs xs) (k:List Key) {b:Addr}{y:V}{u:Value} (hb:H b=some (.tup (k.map kV))) (ry:RelV y u) :
  KT H (putK kvs k y) (storedH xs k b u):=by
 have e:(kvs.any λkv=>decide (kv.1=k))=(atKey xs k).isSome:=by
  rw[Zen,(r.val k).ZgU,Option.isSome_map]
 unfold putK storedH
 rw[e]
 by_cases q:(atKey xs k).isSome=true
 ·rw[Yc q,Yc q];exact r.repl k ry
 ·rw[Yb q,Yb q];exact Paired.snoc r ⟨rfl,hb,ry⟩
theorem KT.keeps {H H':Hp}{kvs:List (List Key×V)}{xs:List (List Key×Addr×Value)} (r:KT H kvs xs) (ht:∀b ys,H b=some (.tup ys)->H' b=some (.tup ys)):KT H' kvs xs :=
 Paired.mapP r λ_ _ z=>⟨z.1,ht _ _ z.2.1,z.2.2⟩
section
variable {P:Program}{w:World}{H:Hp}{h:Heap}{a:Addr}
theorem rd_of {u:HO} (ok:HOk P w H h) (e:Rd H a u):ZS P w H h a u:=e.ok ok
theorem ZmY {kvs:List (Key×V)} (ok:HOk P w H h) (e:Rd H a (.dK kvs)):kvs.length<=sizeLine/\(a==sysModules)=false/\∃vs,KV kvs vs/\h.DictOf (ZaE P w) a vs :=
 show ZS P w H h a (.dK kvs)from rd_of ok e
theorem dk_of {kvs:List (Key×V)} (ok:HOk P w H h) (e:H a=some (.dK kvs)):kvs.length<=sizeLine/\(a==sysModules)=false/\∃vs,KV kvs vs/\h.DictOf (ZaE P w) a vs:=ZmY ok (.inl e)
theorem Zkg {ks:List Key} (ok:HOk P w H h) (e:H a=some (.tup (ks.map kV))):(tupleKind (ZaE P w)).is h ks a:=by
 obtain⟨_,its,r,o,h1,h2,n,h3⟩:=(show ZS P w H h a (.tup (ks.map kV))from ok a _ e)
 exact⟨o,its.toArray,n,h1,h2,h3,by simpa using ZjO r⟩
theorem ZmZ {kvs:List (List Key×V)} (ok:HOk P w H h) (e:Rd H a (.dT kvs)):kvs.length<=sizeLine/\(a==sysModules)=false /\
  ∃xs,KT H kvs xs/\h.DictOfH (tupleKind (ZaE P w)) a xs:=by
 obtain⟨z,y,xs,r,o,es,ep,h1,h2,h3,h4,h5⟩:=(show ZS P w H h a (.dT kvs)from rd_of ok e)
 refine⟨z,y,xs,r,o,es,ep,h1,h2,h3,h4,λx hx=>?_,h5⟩
 have all:∀{l:List (List Key×V)}{m:List (List Key×Addr×Value)},KT H l m->∀x∈m,(tupleKind (ZaE P w)).is h x.1 x.2.1:=by
  intro l m q
  induction q with
  |nil=>intro x hx;exact nomatch hx
  |@cons p q ps qs hq t ih =>
   intro x hx
   rcases Yl.mp hx with e|hx
   ·subst e
    exact Zkg ok (by rw[<-hq.1];exact hq.2.1)
   ·exact ih x hx
 exact all r x hx
theorem dt_of {kvs:List (List Key×V)} (ok:HOk P w H h) (e:H a=some (.dT kvs)):kvs.length<=sizeLine/\(a==sysModules)=false /\
  ∃xs,KT H kvs xs/\h.DictOfH (tupleKind (ZaE P w)) a xs:=ZmZ ok (.inl e)
end
noncomputable def Zlc (H:Hp) (a:Addr) (y:V) (r:Option V):Prop :=
 (∃kvs k,Rd H a (.dK kvs)/\y=kV k/\r=Zak kvs k)\/∃kvs k b,Rd H a (.dT kvs)/\y=.ref b/\H b=some (.tup (k.map kV))/\r=Zak kvs k
noncomputable def DPut (H:Hp) (a:Addr) (y v:V) (H':Hp):Prop :=
 (∃kvs k,H a=some (.dK kvs)/\y=kV k/\kvs.length<sizeLine/\H'=upd H a (.dK (putK kvs k v))) \/
 ∃kvs k b,H a=some (.dT kvs)/\y=.ref b/\H b=some (.tup (k.map kV))/\kvs.length<sizeLine/\H'=upd H a (.dT (putK kvs k v))
theorem Zlc.k {H:Hp}{a:Addr}{kvs:List (Key×V)}{k:Key} (e:H a=some (.dK kvs)):Zlc H a (kV k) (Zak kvs k):=.inl ⟨kvs,k,.inl e,rfl,rfl⟩
section
variable {X:Cx}{pins:List (Addr×Obj)}{σ:St}{H:Hp}{s:Shared}{a:Addr}{y v:V}{u r:Value}{o:Option V}{A:Around}{E:Value->Shared->Prop}
theorem Inv.big (I:Inv X pins σ H s):sysModules<s.heap.objs.size:=by
 have h:mainGlobals<s.heap.objs.size:=(I.mod.glob.keeps I.bk).lt
 exact Nat.lt_trans (by decide) h
theorem ZnH {Q:Value->Shared->Prop} (hu:A.units+1<cLine) (I:Inv X pins σ H s) (g:Zlc H a y (some v)) (ry:RelV y u) (h:∀w' s',Inv X pins σ H s'->RelV v w'->Q w' s') :
  wpAny (model X.prog X.w) A (getItem (.ref a) u) Q E s:=by
 rcases g with⟨kvs,k,e,ey,l⟩|⟨kvs,k,b,e,ey,eb,l⟩
 ·subst ey
  obtain⟨z,hd,vs,rel,dd⟩:=ZmY I.hok e
  obtain⟨w',hw,rw'⟩:=Zd6.some_of (v:=v) (o:=valueAt vs k) (by rw[l];exact rel.val k)
  exact wpAny_getItem_of (ZmX ry) dd.mapOf hw (h w' _ (I.tok _) rw')
 ·subst ey
  cases(show u=Value.ref b from ry)
  obtain⟨z,hd,xs,rel,dd⟩:=ZmZ I.hok e
  obtain⟨w',hw,rw'⟩:=Zd6.some_of (v:=v) (o:=(atKey xs k).map (·.2)) (by rw[l];exact rel.val k)
  obtain⟨p,hp,hp2⟩:=Option.map_eq_some_iff.mp hw
  refine wpAny_getItem_heap (tupleKind_room_in1 hu) (Zkg I.hok eb) dd hp ?_
  rw[hp2]
  exact h w' _ (I.tok _) rw'
theorem Zrw {Q:Value->Shared->Prop} (hu:A.units+1<cLine) (I:Inv X pins σ H s) (g:Zlc H a y o) (ry:RelV y u) (h:∀s',Inv X pins σ H s'->Q (.bool (!o.isSome)) s') :
  wpAny (model X.prog X.w) A (compareOp .NotIn u (.ref a)) Q E s:=by
 rcases g with⟨kvs,k,e,ey,l⟩|⟨kvs,k,b,e,ey,eb,l⟩
 ·subst ey
  obtain⟨z,hd,vs,rel,dd⟩:=ZmY I.hok e
  refine wpAny_notIn_of (ZmX ry) hd dd.mapOf ?_
  rw[<-(rel.val k).ZgU,<-l]
  exact h _ (I.tok _)
 ·subst ey
  cases(show u=Value.ref b from ry)
  obtain⟨z,hd,xs,rel,dd⟩:=ZmZ I.hok e
  refine wpAny_notIn_heap (tupleKind_room_in1 hu) (Zkg I.hok eb) hd dd ?_
  have q:=(rel.val k).ZgU
  rw[Option.isSome_map]at q
  rw[<-q,<-l]
  exact h _ (I.tok _)
theorem ZhZ {h':Heap}{t':Nat}{ob:HO} (I:Inv X pins σ H s) (mu:Mut (H a)) (hs:Heap.SameBut a s.heap h') (he:∃q,h'.get? a=some q) (new:ZS X.prog X.w (upd H a ob) h' a ob) :
  Inv X pins σ (upd H a ob) {s with heap:=h',toks:=t'} :=
 I.write (x:=a) (e:=a) mu (.inl rfl) (λb q hb z=>(hs.2 b hb).trans z) he new
theorem dk_new {P:Program}{w:World}{H':Hp}{h':Heap}{kvs:List (Key×V)}{vs:List (Key×Value)} (z:kvs.length<=sizeLine) (hd:(a==sysModules)=false) (rel:KV kvs vs) (dd:h'.DictOf (ZaE P w) a vs) :
  ZS P w H' h' a (.dK kvs):=⟨z,hd,vs,rel,dd⟩
theorem ZnI {H':Hp}{Q:Unit->Shared->Prop} (hu:A.units+1<cLine) (I:Inv X pins σ H s) (g:DPut H a y v H') (ry:RelV y u) (rv:RelV v r) (h:∀s',Inv X pins σ H' s'->Q () s') :
  wpAny (model X.prog X.w) A (setItem (.ref a) u r) Q E s:=by
 rcases g with⟨kvs,k,e,ey,l,eH⟩|⟨kvs,k,b,e,ey,eb,l,eH⟩
 ·subst ey eH
  obtain⟨z,hd,vs,rel,dd⟩:=dk_of I.hok e
  have hz:vs.length<=sizeLine:=by rw[<-rel.length];exact z
  have hl:(putK kvs k v).length<=sizeLine:=by have:=ZbQ kvs k v;omega
  refine wpAny_setItem_pairs (hsz:=hz) (ZmX ry) dd λh' dd' hs=>h _ ?_
  have he:∃q,h'.get? a=some q:=let ⟨q,_,_,hq,_⟩:=dd';⟨q,hq⟩
  exact ZhZ I (by rw[e];exact True.intro) hs he (dk_new hl hd (rel.put k rv) dd')
 ·subst ey eH
  cases(show u=Value.ref b from ry)
  obtain⟨z,hd,xs,rel,dd⟩:=dt_of I.hok e
  have hz:xs.length<=sizeLine:=by rw[<-Paired.length rel];exact z
  have hl:(putK kvs k v).length<=sizeLine:=by have:=ZbQ kvs k v;omega
  refine wpAny_setItem_heap (hsz:=hz) (tupleKind_room_in1 hu) (Zkg I.hok eb) dd λh' dd' hs=>h _ ?_
  obtain⟨q,es,ep,hq,h2,h3,h4,_,h5⟩:=dd'
  refine ZhZ I (by rw[e];exact True.intro) hs ⟨q,hq⟩ ⟨hl,hd,_,(rel.put k eb rv).keeps λc ys ec=>?_,q,es,ep,hq,h2,h3,h4,h5⟩
  rw[Zh (ne_of ec e (λz=>nomatch z))]
  exact ec
end
noncomputable def NoSl (i:Expr):Prop:=∀ov iv,subscripted i false ov iv=operate [ov,iv] (getItem ov iv)
theorem Zm0 {prog:Program}{w:World}{A:Around}{E:Value->Shared->Prop}{s:Shared}{env:Env}{value slice:Expr}{pos:Pos}{T id:String}{Q:Value->Shared->Prop}
  (hl:typeLookup (.type T) "__getitem__"=pure (some (.builtin id))) (hs:NoSl slice)
  (h:wpAny (model prog w) A (eval value env) (λo s₁=>wpAny (model prog w) A (eval slice env) (λi s₂=>s₂.TypeIs o T/\wpAny (model prog w) A (getItem o i) Q E s₂) E s₁) E s) :
  wpAny (model prog w) A (eval (.Subscript value slice pos) env) Q E s:=by
 refine Subscript_ (YB h (λo s₁ h₁=>YB h₁ (λi s₂ h₂=>?_) λ_ _ x=>x) λ_ _ x=>x)
 obtain⟨hT,h₂⟩:=h₂
 unfold subscriptTail
 refine Ya ?_
 rw[getitemInPython_of_ne hT.not_modules]
 refine Ya (wpAny_specialOf hT hl ?_)
 have fin:wpAny (model prog w) A (subscripted slice false o i) (λr s₃=>wpAny (model prog w) A (letTemporaryGo value o r >>= λ_=>pure r) Q E s₃) E s₂:=by
  rw[hs o i]
  exact wpAny_operating (YB h₂ (λr s₃ h₃=>Ya (wpAny_letTemporaryGo (Ye h₃))) λ_ _ x=>x)
 first
  |exact Ye (Ya fin)
  |exact Ya (Ye (Ya fin))
  |exact Ya fin
theorem Zld {X:Cx}{pins:List (Addr×Obj)}{σ:St}{H:Hp}{s:Shared}{a:Addr}{y:V}{o:Option V} (I:Inv X pins σ H s) (g:Zlc H a y o):s.TypeIs (.ref a) "dict":=by
 rcases g with⟨kvs,k,e,_,_⟩|⟨kvs,k,b,e,_,_,_⟩
 ·obtain⟨_,_,vs,_,dd⟩:=ZmY I.hok e
  exact dd.typeIs
 ·obtain⟨_,_,xs,_,dd⟩:=ZmZ I.hok e
  exact dd.typeIs
noncomputable def tDGet (td ty:TE):TE:=fun σ H Q=>td σ H λx H1=>ty σ H1 λy H2=>∃a v,x=.ref a/\Zlc H2 a y (some v)/\Q v H2
noncomputable def tDNotIn (ty td:TE):TE:=fun σ H Q=>ty σ H λy H1=>td σ H1 λx H2=>∃a o,x=.ref a/\Zlc H2 a y o/\Q (.bl (!o.isSome)) H2
noncomputable def sDPut (td ty tv:TE):TS:=λD σ H=>tv σ H λv H1=>td σ H1 λx H2=>ty σ H2 λy H3=>∃a H4,x=.ref a/\DPut H3 a y v H4/\D.nx σ H4
section
variable {X:Cx}{o i e value:Expr}{pos pos' tpos:Pos}{td ty tv:TE}
theorem Zrx (hu:X.A.units+1<cLine) (ho:PE X o td) (hi:PE X i ty) (hs:NoSl i):PE X (.Subscript o i pos) (tDGet td ty):=by
 intro pins s σ H Q I h
 refine Zm0 PySem.F.slot_dict_getitem.lookup hs (thn (ho pins s σ H _ I h) λu s1 ⟨x,H1,I1,rx,q1⟩=>thn (hi pins s1 σ H1 _ I1 q1) λiv s2 ⟨y,H2,I2,ry,a,v,ex,g,q2⟩=>?_)
 subst ex
 obtain rfl:u=Value.ref a:=rx
 exact⟨Zld I2 g,ZnH hu I2 g ry λw' s3 I3 rw'=>⟨v,H2,I3,rw',q2⟩⟩
theorem ZnJ (hu:X.A.units+1<cLine) (hi:PE X i ty) (ho:PE X o td):PC X .NotIn i o (tDNotIn ty td):=by
 intro pins s σ H Q I h
 refine thn (hi pins s σ H _ I h) λiv s1 ⟨y,H1,I1,ry,q1⟩=>thn (ho pins s1 σ H1 _ I1 q1) λu s2 ⟨x,H2,I2,rx,a,ov,ex,g,q2⟩=>?_
 subst ex
 obtain rfl:u=Value.ref a:=rx
 exact Zrw hu I2 g ry λs3 I3=>⟨.bl (!ov.isSome),H2,I3,rfl,q2⟩
theorem Zry (hu:X.A.units+1<cLine) (ho:PE X o td) (hi:PE X i ty) (hv:PE X value tv) (hs:swapsWith value (some (.Subscript o i pos')) pos.line X.env=pure false) :
  PS X (.Assign [.Subscript o i pos'] value pos) (sDPut td ty tv):=by
 intro pins s σ H D I h
 refine wpAny_Assign_Subscript (thn (hv pins s σ H _ I h) λr s1 ⟨v,H1,I1,rv,q1⟩=>thn (ho pins s1 σ H1 _ I1 q1) λu s2 ⟨x,H2,I2,rx,q2⟩=>thn (hi pins s2 σ H2 _ I2 q2) λiv s3 ⟨y,H3,I3,ry,a,H4,ex,g,q3⟩=>?_) hs
 subst ex
 obtain rfl:u=Value.ref a:=rx
 exact ZnI hu I3 g ry rv λs4 I4=>⟨σ,H4,I4,q3⟩
end
theorem Zpq {P:Program}{w:World}{H:Hp} (h:Heap) (hb:sysModules<h.objs.size):ZS P w H (h.push {cls:=.type "dict",data:=.dict #[]}) h.objs.size (.dK []) :=
 ⟨Yn _,beq_eq_false_iff_ne.mpr (Ne.symm (Yk hb)),[],.nil,Heap.DictOf.new h⟩
noncomputable def tDNewK:TE:=λ_ H Q=>∀p,H p=none->Q (.ref p) (upd H p (.dK []))
section
variable {X:Cx}{pos:Pos}
theorem Zpr:PE X (.Dict [] [] pos) tDNewK:=λpins s σ H Q I h =>
 wpAny_Dict_empty ⟨.ref s.heap.objs.size,_,I.laid (a:=s.heap.objs.size) (o:=.dK []) (t':=s.toks) (λ_ _ q=>Yg _ q) (Yd _) (Zpq s.heap I.big),rfl,h _ (I.hok.fresh (Yd _))⟩
end
noncomputable def Zps:List (TE×TE)->St->Hp->(List (V×V)->Hp->Prop)->Prop
 |[],_,H,Q=>Q [] H
 |(tk,tv)::r,σ,H,Q=>tk σ H λx H1=>tv σ H1 λy H2=>Zps r σ H2 λps H3=>Q ((x,y)::ps) H3
noncomputable abbrev VV:List (V×V)->List (Value×Value)->Prop:=Paired λp q=>RelV p.1 q.1/\RelV p.2 q.2
noncomputable def PPs (X:Cx) (pos:Pos) (keys:List (Option Expr)) (values:List Expr) (trs:List (TE×TE)):Prop :=
 ∀(pins:List (Addr×Obj)) (s:Shared) (σ:St) (H:Hp) (Q:List (V×V)->Hp->Prop),Inv X pins σ H s->Zps trs σ H Q ->
  wpAny (model X.prog X.w) X.A (evalPairs (pairTrees keys values X.env pos)) (λvs s'=>∃ps H',Inv X pins σ H' s'/\VV ps vs/\Q ps H') X.xe s
theorem Zrz {X:Cx}{pos:Pos}:PPs X pos [] [] []:=λpins s σ H Q I h=>pairTrees_nil_walk ⟨[],H,I,.nil,h⟩
theorem Zpt {X:Cx}{pos:Pos}{k v:Expr}{ks:List (Option Expr)}{vs:List Expr}{tk tv:TE}{trs:List (TE×TE)} (hk:PE X k tk) (hv:PE X v tv) (hr:PPs X pos ks vs trs) :
  PPs X pos (some k::ks) (v::vs) ((tk,tv)::trs):=λpins s σ H Q I h =>
 pairTrees_cons_walk (thn (hk pins s σ H _ I h) λu s1 ⟨x,H1,I1,rx,q1⟩=>thn (hv pins s1 σ H1 _ I1 q1) λw2 s2 ⟨y,H2,I2,ry,q2⟩ =>
  thn (hr pins s2 σ H2 _ I2 q2) λws s3 ⟨ps,H3,I3,rel,q3⟩=>⟨(x,y)::ps,H3,I3,.cons ⟨rx,ry⟩ rel,q3⟩)
end L2
namespace L2
open PySem PySem.Spec PyProof.Rows PySem.W PySem.Calls
end L2
namespace L2
open PySem PySem.Spec PyProof.Rows PySem.W
noncomputable def sF (r:Addr) (f:Int) (t:Addr):List (Str×V):=Za5 "tree" (.ref t) (Za5 "first" (.int f) (Za5 "row" (.ref r) []))
end L2
namespace L2
open PySem PySem.Spec PyProof.Rows PySem.W PySem.Calls
end L2
namespace L2
open PySem PySem.Spec PyProof.Rows PySem.W
noncomputable def ZnK (K:Frag) (f:Addr):Option Addr:=match K.lookup f with
 |some ⟨_,_,.func fd,_⟩=>(match fd.code with|.ref c=>some c|_=>none)
 |_=>none
noncomputable def tabOf (K:Frag) (c:Addr):Addr:=match K.lookup c with
 |some ⟨_,_,.fields vs,_⟩=>(match (vs[11]?:Option Value)with|some (.ref P)=>P|_=>0)
 |_=>0
noncomputable def Zkh (K:Frag) (mg:Str->Option Value) (x:Str):Addr:=match mg x with
 |some (.ref f)=>(match ZnK K f with|some c=>tabOf K c|none=>0)
 |_=>0
noncomputable def Zit (q:Str):HO:=.tbl #[.str q 0]
noncomputable def BM (mg:Str->Option Value) (base:Heap):Prop :=
 ∃bm o,mg "__builtins__"=some (.ref bm)/\bm≠builtinsNs/\bm≠mainGlobals/\base.get? bm=some o/\o.cls=.type "module"/\o.dict=some builtinsNs/\o.data=.plain
noncomputable def Zmk (env:Env) (P:Addr) (q:Str) (params:Arguments) (body:Expr) (scope:Scope) (H:Hp) (f:Addr):Prop :=
 ∃c oc vs t cl pm ctv,H f=some (.frz (kla_obj "<lambda>" q params body scope cl pm c ctv) (.own f))/\H c=some (.frz oc (.own P))/\oc.data=.fields vs/\vs[1]?=some (.str q t) /\
  (∀x c,cl.lookup x=some c->env.cells.lookup x=some c)/\(∀y∈scope.names,y.2=.free->∃c,cl.lookup y.1=some c/\env.cells.lookup y.1=some c)
theorem Zmk.same {env:Env}{P:Addr}{q:Str}{params:Arguments}{body:Expr}{scope:Scope}{H H':Hp}{f:Addr} (h:Zmk env P q params body scope H f) (s:Zg H H'):Zmk env P q params body scope H' f:=by
 obtain⟨c,oc,vs,t,cl,pm,ctv,e1,e2,r⟩:=h
 exact⟨c,oc,vs,t,cl,pm,ctv,s _ _ e1,s _ _ e2,r⟩
structure LamIn (X:Cx) (P:Addr) (q:Str):Prop where
 code:∃c,X.env.code=.ref c/\codeHdIn X.K c P=true
 bm:BM X.mg X.base
 ql:X.env.qual++"<lambda>"=q
theorem Zml {pos:Pos}{a b:Int}{c cv:Value}:∀(l:List Value),TriplesOk l->codeAmong pos (l++[rawInt a,rawInt b,c])=some cv->codeAmong pos l=some cv\/cv=c:=by
 intro l h e
 fun_induction TriplesOk l with
 |case1 =>
  simp only[List.nil_append,codeAmong,rawInt]at e
  split at e
  ·cases e;exact .inr rfl
  ·cases e
 |case2 a' t b' u x rest ih =>
  simp only[List.cons_append,codeAmong]at e⊢
  split at e
  ·rename_i hc;rw[Yc hc];exact .inl e
  ·rename_i hc;rw[Yb hc];exact ih h e
 |case3 l h1 h2=>exact h.elim
section
variable {X:Cx}
theorem Inv.lam {pins:List (Addr×Obj)}{σ:St}{H:Hp}{s:Shared}{h':Heap}{t':Nat}{P c f:Addr}{q:Str}{oc fo:Obj}{ts:Array Value}{vs:Array Value}{tq:Tok}
  (I:Inv X pins σ H s) (hP:H P=some (Zit q)) (k:∀b o,b≠P->s.heap.get? b=some o->h'.get? b=some o) (hts:h'.get? P=some (tabObj ts)) (h3:TriplesOk ts.toList)
  (hc:H c=some (.frz oc (.own P))\/s.heap.objs.size<=c) (hcP:c≠P) (hoc:h'.get? c=some oc) (hd:oc.data=.fields vs) (hv:vs[1]?=some (.str q tq)) (hf:s.heap.objs.size<=f) (hfc:f≠c) (hfo:h'.get? f=some fo)
  (hcodes:∀pos cv,codeAmong pos ts.toList=some cv->cv=.ref c\/∃c2 oc vs t t',cv=.ref c2/\H c2=some (.frz oc (.own P))/\oc.data=.fields vs/\vs[1]?=some (.str q t)/\t'=(0:Tok)) :
  Inv X pins σ (upd (upd H c (.frz oc (.own P))) f (.frz fo (.own f))) {s with heap:=h',toks:=t'}:=by
 have hPlt:P<s.heap.objs.size:=I.hok.lt hP
 have hfP:f≠P:=λz=>by rw[z]at hf;exact absurd (Ys hPlt hf) (YA _)
 have hfn:H f=none:=I.hok.fresh hf
 have up:∀b o,H b=some o->upd (upd H c (.frz oc (.own P))) f (.frz fo (.own f)) b=some o:=λb o e=>by
  have nf:b≠f:=Zr e hfn
  rw[Zh nf]
  rcases hc with hc|hc
  ·by_cases z:b=c
   ·subst z;rw[Zc,<-e,hc]
   ·rw[Zh z];exact e
  ·rw[Zh (Zr e (I.hok.fresh hc))];exact e
 have un:Un X.fs [] H (upd (upd H c (.frz oc (.own P))) f (.frz fo (.own f))) s.heap h':=by
  have nP:∀b,H b=none->b≠P:=λb n z=>by rw[z,hP]at n;cases n
  refine⟨λb o e n _ _=>k b o (nP b n) e,λb o e n _ _=>⟨o.slots,k b o (nP b n) e⟩,λb o e n _=>?_,λb o e _=>?_,λb xs e=>up _ _ e,λb o u e=>up _ _ e,λb ps e=>⟨#[],by rw[up _ _ e];simp⟩⟩
  ·have lt:=Yj e
   have nf:b≠f:=λz=>by rw[z]at lt;exact absurd (Ys lt hf) (YA _)
   have nc:b≠c:=λz=>by
    rcases hc with hc|hc
    ·rw[z,hc]at n;cases n
    ·rw[z]at lt;exact absurd (Ys lt hc) (YA _)
   rw[Zh nf,Zh nc];exact n
  ·by_cases z:b=P
   ·subst z;exact⟨_,hts⟩
   ·exact⟨o,k b o z e⟩
 refine I.un un λb o e=>?_
 by_cases zf:b=f
 ·subst zf
  rw[Zc]at e;cases e
  exact⟨hfo,_,hfo⟩
 rw[Zh zf]at e
 by_cases zc:b=c
 ·subst zc
  rw[Zc]at e;cases e
  exact⟨hoc,_,hoc⟩
 rw[Zh zc]at e
 by_cases zP:b=P
 ·subst zP
  rw[hP]at e;cases e
  refine⟨ts,hts,h3,λpos cv hcv=>?_⟩
  rcases hcodes pos cv hcv with rfl|⟨c2,oc2,vs2,t2,t2',e1,e2,e3,e4,_⟩
  ·exact⟨c,oc,vs,q,0,tq,rfl,by rw[Zh (Ne.symm hfc),Zc],hd,rfl,hv⟩
  ·exact⟨c2,oc2,vs2,q,0,t2,e1,up _ _ e2,e3,rfl,e4⟩
 ·refine(I.hok b o e).ZgD (λb2 u hb z=>k b2 u ?_ z) (λb2 z=>up _ _ z) (λb2 xs z=>up _ _ z) λb2 o2 u2 z=>up _ _ z
  rcases hb with rfl|hb
  ·exact zP
  ·intro z;rw[z,hP]at hb;cases hb
noncomputable def tLam (env:Env) (P:Addr) (q:Str) (params:Arguments) (body:Expr) (scope:Scope):TE:=λ_ H Q=>H P=some (Zit q)/\∀f H',H f=none->Zg H H'->Zmk env P q params body scope H' f->Q (.ref f) H'
theorem pe_lam {P:Addr}{q:Str}{params:Arguments}{body:Expr}{scope:Scope}{pos:Pos} (L:LamIn X P q) (hok:compOk X.env.scope scope=true) (hdef:defaultsOf params X.env=([],[]):=by rfl) :
  PE X (.Lambda params body scope pos) (tLam X.env P q params body scope):=by
 intro pins s σ H Q I h
 obtain⟨hP,h⟩:=h
 obtain⟨c0,hc0,hcd⟩:=L.code
 have C:CodeHd s.heap c0 P:=codeHd_of_K I.kIn hcd
 obtain⟨bm,ob,b1,b2,b3,b4,b5,b6,b7⟩:=L.bm
 have hbm:=I.bs bm ob b4
 have bP:bm≠P:=λz=>by rw[z,hP]at hbm;cases hbm.2
 have gP:mainGlobals≠P:=λz=>by
  obtain⟨o,es,ep,e,_⟩:=I.ok.mod.glob
  have:=(I.bs _ _ e).2
  rw[z,hP]at this;cases this
 have hg:s.heap.Ns mainGlobals X.mg:=I.ok.mod.glob.keeps I.bk
 have hb:s.heap.BuiltinsAt X.mg P:=⟨bm,ob,b1,b2,b3,bP,hbm.1,b5,b6,b7⟩
 obtain⟨ts,hts,h3,hco⟩:=I.hok P _ hP
 obtain⟨cl,hcl,up,hfr⟩:=Zl5 (env:=X.env) (scope:=scope) λy hy hf=>I.ok.has y.1 ((Zhd hok y hy hf).elim (λz=>.inl z) λz=>.inr z)
 have hco':∀pos cv,codeAmong pos ts.toList=some cv->∃c2 oc vs t t',cv=.ref c2/\H c2=some (.frz oc (.own P))/\oc.data=.fields vs/\vs[1]?=some (.str q t)/\t'=(0:Tok):=λpos cv e=>by
  obtain⟨c,oc,vs,q',t,t',e1,e2,e3,e4,e5⟩:=hco pos cv e
  have e4':some (Value.str q (0:Tok))=some (Value.str q' t):=e4
  cases e4'
  exact⟨c,oc,vs,t',0,e1,e2,e3,e5,rfl⟩
 refine kla_eval hdef ?_
 rw[L.ql]
 cases hca:codeAmong pos ts.toList with
 |some cv =>
  obtain⟨c,oc,vs,tq,t',rfl,e2,e3,e4,_⟩:=hco' pos cv hca
  refine kla_makeFunctionHit (mg:=X.mg) hcl I.ok.glob hg hc0 C hts h3 hca hb λctv h' tk hk hsz=>?_
  have hoc:s.heap.get? c=some oc:=(I.hok c _ e2).1
  have hcP:c≠P:=λz=>by rw[z,hP]at e2;cases e2
  have lt:=Yj hoc
  have kk:∀b o,s.heap.get? b=some o->(h'.push {cls:=.type "function",data:=.func (kla_fn "<lambda>" q params body scope cl ((X.mg "__name__").getD .none) (.ref c) ctv)}).get? b=some o:=λb o e=>Yg _ (hk b o e)
  have J:=I.lam (t':=tk) (f:=h'.objs.size) hP (λb o _ e=>kk b o e) (kk _ _ hts) h3 (.inl e2) hcP (kk _ _ hoc) e3 e4 hsz (λz=>by rw[<-z]at lt;exact absurd (Ys lt hsz) (YA _)) (Ym _ rfl) λp2 cv2 z=>.inr (hco' p2 cv2 z)
  have hfn:H h'.objs.size=none:=I.hok.fresh hsz
  have ne:c≠h'.objs.size:=Yk (Ys lt hsz)
  refine⟨.ref h'.objs.size,_,J,rfl,h _ _ hfn (λb o e=>?_) ⟨c,oc,vs,tq,cl,_,ctv,Zc,by rw[Zh ne,Zc],e3,e4,up,hfr⟩⟩
  rw[Zh (Zr e hfn)]
  by_cases z:b=c
  ·subst z;rw[Zc,<-e,e2]
  ·rw[Zh z];exact e
 |none =>
  refine kla_makeFunction (mg:=X.mg) hcl I.ok.glob hg hc0 C hts h3 hca gP hb λc ctv h' tk hx hge hlt hrec htb=>?_
  obtain⟨c2,oc,vs,tq,e2,hoc,e3,e4⟩:=hrec
  cases e2
  have hsz:s.heap.objs.size<=h'.objs.size:=Yf hge (YI hlt)
  have kk:∀b o,h'.get? b=some o->(h'.push (kla_obj "<lambda>" q params body scope cl ((X.mg "__name__").getD .none) c ctv)).get? b=some o:=λb o e=>Yg _ e
  have hPlt:P<s.heap.objs.size:=I.hok.lt hP
  have hcP:c≠P:=λz=>by rw[z]at hge;exact absurd (Ys hPlt hge) (YA _)
  have tl:(ts++#[rawInt pos.line,rawInt pos.col,Value.ref c]).toList=ts.toList++[rawInt pos.line,rawInt pos.col,Value.ref c]:=by simp
  have J:=I.lam (t':=tk) (f:=h'.objs.size) (ts:=ts++#[rawInt pos.line,rawInt pos.col,.ref c]) hP (λb o nb e=>kk b o (hx b o nb e)) (kk _ _ htb) (by rw[tl];exact TriplesOk_snoc _ _ _ _ h3) (.inr hge) hcP (kk _ _ hoc) e3 e4 hsz (Nat.ne_of_gt hlt) (Ym _ rfl) λp2 cv2 z=>by
   rw[tl]at z
   rcases Zml ts.toList h3 z with y|y
   ·exact .inr (hco' p2 cv2 y)
   ·exact .inl y
  have hfn:H h'.objs.size=none:=I.hok.fresh hsz
  have hcn:H c=none:=I.hok.fresh hge
  refine⟨.ref h'.objs.size,_,J,rfl,h _ _ hfn (λb o e=>?_) ⟨c,oc,vs,tq,cl,_,ctv,Zc,by rw[Zh (Yk hlt),Zc],e3,e4,up,hfr⟩⟩
  rw[Zh (Zr e hfn),Zh (Zr e hcn)];exact e
end
noncomputable def Zle (X:Cx) (A':Around) (Nc:List Str) (q:Str) (scope:Scope) (cl:List (Str×Addr)) (L f c:Addr) (s:Shared) (H:Hp):Cx where
 prog:=X.prog
 w:=X.w
 K:=X.K
 mg:=X.mg
 base:=X.base
 A:=A'.deeper (envX q scope L f (.ref c) cl)
 N:=Nc
 s₀:=s
 H₀:=H
 env:=envX q scope L f (.ref c) cl
 outer:=X.stack
 stack:=envX q scope L f (.ref c) cl::X.stack
 ex:=[]
 fn:=λ_=>false
 calm:=X.calm
 pn:=[]
 xe:=λ_ _=>False
section
variable {X:Cx}
theorem ZnL {pins:List (Addr×Obj)}{σ:St}{H:Hp}{s:Shared}{A':Around}{Nc:List Str}{js:List (Option Nat)}{q pn:Str}{scope:Scope}{cl:List (Str×Addr)}{h1:Heap}{tk:Nat}{f c:Addr}{v:V}{u:Value}
  (I:Inv X pins σ H s) (hA:A'.frames=some X.stack) (hh:X.calm=true->A'.handled=none) (hok:compOk X.env.scope scope=true) (htk:takesC X.N Nc scope js 0=true) (hp0:Nc[0]?=some pn) (hj0:js[0]?=some none) (hpl:scope.names.lookup pn=some .local)
  (up:∀x c,cl.lookup x=some c->X.env.cells.lookup x=some c) (hfr:∀y∈scope.names,y.2=.free->∃c,cl.lookup y.1=some c/\X.env.cells.lookup y.1=some c)
  (r:RelV v u) (old:∀b o,s.heap.get? b=some o->h1.get? b=some o) (hns:h1.Ns s.heap.objs.size λy=>[(pn,u)].reverse.lookup y) :
  Inv (Zle X A' Nc q scope cl s.heap.objs.size f c s H) [] ((iniC js σ).set 0 (some v)) H {s with heap:=h1,toks:=tk}:=by
 have noA:∀b:Addr,b∉(Zle X A' Nc q scope cl s.heap.objs.size f c s H).ex:=λb z=>absurd (show b∈([]:List Addr)from z) (by simp)
 have kf:∀x,((envX q scope s.heap.objs.size f (.ref c) cl).kindOf x=some .cell\/(envX q scope s.heap.objs.size f (.ref c) cl).kindOf x=some .free)->∃c,cl.lookup x=some c:=λx hx=>by
  rcases hx with z|z
  ·exact absurd rfl (Zhc hok _ (lookup_mem (show scope.names.lookup x=some .cell from z)))
  ·obtain⟨c,q,_⟩:=hfr _ (lookup_mem (show scope.names.lookup x=some .free from z)) rfl
   exact⟨c,q⟩
 refine⟨⟨I.ok.mod,Zhb hok,rfl,rfl,Yd _,λx y c e1 e2=>I.ok.inj x y c (up _ _ e1) (up _ _ e2),λx hx=>kf x hx,(λx c e=>nomatch e),hh,Around.frames_deeper hA,.inr ⟨rfl,rfl⟩,λb z=>absurd z (noA b),I.bs,Yf I.ok.bsz I.sz,λb _ _=>noA b,λb z=>absurd z (noA b),I.stack,I.ZhR⟩,
  rfl,I.bare,Un.kept old,⟨_,hns,λi x v' e1 e2 e3=>?_⟩,λx c e=>?_,I.hok.fresh (Yd _),λx c e=>I.freeC x c (up _ _ e),λp hp=>absurd (show p∈([]:List (Addr×Obj))from hp) (by simp),I.hok.kept old,?_⟩
 ·by_cases hi:i=0
  ·subst hi
   have ex:x=pn:=Yy ((show Nc[0]?=some x from e1).symm.trans hp0)
   subst ex
   have hl:0<(iniC js σ).length:=by
    unfold iniC
    rw[Yh]
    exact(Yp.mp hj0).1
   rw[List.getElem?_set_self hl]at e2
   cases e2
   exact⟨u,r,.inl ⟨hpl,by simp⟩⟩
  ·rw[List.getElem?_set_ne (Ne.symm hi)]at e2
   have e2':(iniC js σ)[i]?=some (some v'):=e2
   unfold iniC at e2'
   rw[YC]at e2'
   cases hq:js[i]? with
   |none=>rw[hq]at e2';cases e2'
   |some j0 =>
    cases j0 with
    |none=>rw[hq]at e2';cases e2'
    |some j =>
     rw[hq]at e2'
     simp only[Option.map_some,Option.some.injEq]at e2'
     have e4:σ[j]?=some (some v'):=by
      cases z:σ[j]? with
      |none=>rw[z]at e2';cases e2'
      |some o=>rw[z]at e2';simp only[Option.join_some]at e2';rw[e2']
     obtain⟨y,y1,y2,y3⟩:=Zfg htk hq
     rw[Nat.zero_add]at y1
     have:x=y:=Yy ((show Nc[i]?=some x from e1).symm.trans y1)
     subst this
     have hm:=lookup_mem y3
     obtain⟨c1,h1',h2'⟩:=hfr _ hm rfl
     have hk:=Zhd hok _ hm rfl
     obtain⟨m0,hn0,hl0⟩:=I.loc
     obtain⟨u',r',l⟩:=hl0 j x v' y2 e4 (hk.elim (λz=>.inr (.inl z)) λz=>.inr (.inr z))
     refine⟨u',r',.inr ⟨.inr y3,c1,h1',?_⟩⟩
     rcases l with⟨lk,_⟩|⟨_,c',c3,c4⟩
     ·rcases hk with z|z
      ·rw[show X.env.kindOf x=some .cell from z]at lk;cases lk
      ·rw[show X.env.kindOf x=some .free from z]at lk;cases lk
     ·rw[h2']at c3;cases c3
      obtain⟨oc,w1,w2⟩:=c4
      exact⟨oc,old _ _ w1,w2⟩
 ·obtain⟨v,oc,w1,w2⟩:=I.cell x c (up _ _ e)
  exact⟨v,oc,old _ _ w1,w2⟩
 ·show((iniC js σ).set 0 (some v)).length=Nc.length
  unfold iniC
  have:=Zdv htk
  rw[List.length_set,Yh]
  omega
structure LamSc (X:Cx) (Nc:List Str) (js:List (Option Nat)) (params:Arguments) (body:Expr) (scope:Scope) (pn:Str):Prop where
 ok:compOk X.env.scope scope=true
 tk:takesC X.N Nc scope js 0=true
 p0:Nc[0]?=some pn
 j0:js[0]?=some none
 pl:scope.names.lookup pn=some .local
 co:scope.isCoroutine=false
 gen:scope.isGenerator=false
 bd:∀(q:Str) (cl:List (Str×Addr)) (pm cd ctv u:Value),bindArgs (kla_fn "<lambda>" q params body scope cl pm cd ctv) ⟨[u],[]⟩=pure [(pn,u)]
theorem Zpu {pins:List (Addr×Obj)}{σ:St}{H:Hp}{s:Shared}{A':Around}{Nc:List Str}{js:List (Option Nat)}{q pn:Str}{params:Arguments}{body:Expr}{scope:Scope}{P f:Addr}{v:V}{u:Value}{tb:TE}{Q:VK}{E:Value->Shared->Prop}
  (S:LamSc X Nc js params body scope pn) (hbody:∀cl L f c s H,PE (Zle X A' Nc q scope cl L f c s H) body tb) (I:Inv X pins σ H s) (hA:A'.frames=some X.stack) (hh:X.calm=true->A'.handled=none) (hroom:A'.depth<recursionLimit) (L:Zmk X.env P q params body scope H f)
  (r:RelV v u) (h:tb ((iniC js σ).set 0 (some v)) H Q):wpAny (model X.prog X.w) A' (call (.ref f) [u]) (EP X pins σ Q) E s:=by
 obtain⟨c,oc,vs,t,cl,pm,ctv,e1,e2,e3,e4,up,hfr⟩:=L
 have hfo:=(I.hok f _ e1).1
 have hoc:=(I.hok c _ e2).1
 refine wpAny_call (codeAny_mono (R:=λr s'=>∃u',r=.ok (.ret u')/\EP X pins σ Q u' s') (kla_callFunE hroom hfo rfl S.co S.gen rfl ⟨c,oc,vs,t,rfl,hoc,e3,e4⟩ ?_) λr s' ⟨u',hr,z⟩=>by subst hr;exact z)
 show wpAny _ _ (bindArgs (kla_fn "<lambda>" q params body scope cl pm (.ref c) ctv) ⟨[u],[]⟩) _ _ _
 rw[S.bd]
 refine Ye (wpAny_newFunctionEnv (λx hx=>Zhc S.ok x hx) (λx hx=>?_) (λh₁ hns hsb=>⟨I.nolimit.fresh _ hsb,?_⟩) (Zhb S.ok))
 ·have:x=(pn,u):=by simpa using hx
  subst this;exact S.pl
 show codeAny _ _ (.expr body (envX q scope s.heap.objs.size f (.ref c) cl)) _ _
 have old:∀b o,s.heap.get? b=some o->h₁.get? b=some o:=λb o e=>hsb.extBut b o (Yk (Yj e)) (Yg _ e)
 have J:=ZnL (q:=q) (f:=f) (c:=c) (tk:=s.toks+[(pn,u)].length) I hA hh S.ok S.tk S.p0 S.j0 S.pl up hfr r old hns
 refine kla_codeExpr (YB (hbody cl _ f c s H [] _ _ H Q J h) (λv' s' ⟨x,H',J',r',q'⟩=>⟨v',rfl,x,H',?_,r',q'⟩) λ_ _ z=>z.elim)
 exact I.ZoL (ch:=[]) J'.os J'.base J'.hok J'.bare λb z=>absurd z (by simp)
end
section
variable {prog:Program}{w:World}{A:Around}{E:Value->Shared->Prop}{s:Shared}
noncomputable def Zpv (b:Bool) (st:SortSt):Array Value:=if b then ((arrOf st).map (·.2)).reverse else (arrOf st).map (·.2)
noncomputable def Zmm (h:Heap) (kS a:Addr) (out:Array Value):Heap:=(h.update kS (Obj.mapSeq λ_=>(#[]:Array Value))).update a (Obj.mapSeq λ_=>out)
theorem ZrA {a kS:Addr}{b:Bool}{e e1:Nat}{keys:Array Value}{st:SortSt}{R:PySem.Fin->Shared->Prop} (ok:s.heap.get? kS=some (seqObj "list" keys e)) (oa:s.heap.get? a=some (seqObj "list" #[] e1)) (ne:a≠kS) (z1:keys.size<=1000) (z2:(arrOf st).size<=1000) (hf:failedOf st=none)
  (h:R (.done (.ret .none)) {s with heap:=Zmm s.heap kS a (Zpv b st)}):wpAny (model prog w) A (ksk_tail a b e1 (.ref kS) st) R E s:=by
 have oa1:(s.heap.update kS (Obj.mapSeq λ_=>(#[]:Array Value))).get? a=some (seqObj "list" #[] e1):=(Heap.get?_update_ne _ _ _ _ ne).trans oa
 have zo:(Zpv b st).size<=sizeLine+1:=by
  unfold Zpv
  cases b
  ·rw[Yb Yw,Array.size_map];exact Nat.le_succ_of_le (Yf z2 (by decide))
  ·rw[Yc rfl,Array.size_reverse,Array.size_map];exact Nat.le_succ_of_le (Yf z2 (by decide))
 unfold ksk_tail
 dsimp only
 refine Ya (listUpdate_at ok rfl (Ya (wpAny_letGo (Ya (seqEpoch_at oa1 rfl (Ya (listUpdate_at oa1 rfl ?_ (Yn _) zo)))))) (Yf z1 (by decide)) (Yn _))
 rw[hf]
 simp only[bne_self_eq_false,Bool.false_eq_true,if_false]
 exact Ye h
theorem sk_end {a kS:Addr}{b:Bool}{e e1:Nat}{keys:Array Value}{vs:List Value}{kz:List Int}{R:PySem.Fin->Shared->Prop} (ok:s.heap.get? kS=some (seqObj "list" keys e)) (oa:s.heap.get? a=some (seqObj "list" #[] e1)) (ne:a≠kS) (hk:IntsAre keys.toList kz) (hl:kz.length=vs.length) (h64:vs.length<64)
  (h:∀out:Array Value,KskOut b kz vs out.toList->R (.done (.ret .none)) {s with heap:=Zmm s.heap kS a out}):wpAny (model prog w) A (ksk_end a b vs.toArray e1 (.ref kS) keys) R E s:=by
 have hz:keys.size=vs.length:=by
  have q:=hk.length
  rw[YM]at q;omega
 have hzz:(keys.zip vs.toArray).size=vs.length:=by rw[Array.size_zip,hz,Yo,Nat.min_self]
 have go:∀t:Sem PySem.Fin,wpAny (model prog w) A t R E s->wpAny (model prog w) A (if b=true then (rule "list.sort.reverse" >>= λ_=>t)else t) R E s:=λt ht=>by
  cases b
  ·exact ht
  ·exact Ya (wpAny_rule ht)
 have hst:(if b=true then (keys.zip vs.toArray).reverse else keys.zip vs.toArray).Perm (keys.zip vs.toArray):=by
  cases b
  ·exact .refl _
  ·exact Array.perm_iff_toList_perm.mpr (by rw[Yc rfl,Array.toList_reverse];exact List.reverse_perm _)
 have done:∀st:SortSt,(arrOf st).Perm (keys.zip vs.toArray)->failedOf st=none->SortedTo (arrOf st) (arrOf st).size->wpAny (model prog w) A (ksk_tail a b e1 (.ref kS) st) R E s:=λst q1 q2 q3 =>
  ZrA ok oa ne (by omega) (by rw[q1.size_eq,hzz];omega) q2 (h _ (ksk_out hk q1 q3))
 unfold ksk_end
 refine go _ ?_
 by_cases h2:vs.length<2
 ·have h2':vs.toArray.size<2:=by rw[Yo];exact h2
  rw[Yc h2',Yc h2']
  refine Ya (Ye ?_)
  dsimp only
  rw[StateT.run_pure]
  refine Ya (Ye (done (SortSt.mk' general' (if b=true then (keys.zip vs.toArray).reverse else keys.zip vs.toArray) #[] 7 none) hst rfl λi j hij hj=>?_))
  have hj':j<(if b=true then (keys.zip vs.toArray).reverse else keys.zip vs.toArray).size:=hj
  rw[hst.size_eq,hzz]at hj'
  rw[show i=j by omega]
  exact Int.le_refl _
 ·have h2':¬ vs.toArray.size<2:=by rw[Yo];exact h2
  rw[Yb h2',Yb h2',ksk_kind hk (by omega)]
  refine Ya (Ye (Ya (YB (wpS_sortRuns (a₀:=keys.zip vs.toArray) (st:=SortSt.mk' oneType' (if b=true then (keys.zip vs.toArray).reverse else keys.zip vs.toArray) #[] 7 none)
   (Q:=λ_ st=>(arrOf st).Perm (keys.zip vs.toArray)/\failedOf st=none/\SortedTo (arrOf st) (keys.zip vs.toArray).size) (ksk_intKeys hk) ⟨hst,rfl,rfl,rfl⟩ (by omega) (by omega) λst q1 q2 q3=>⟨q1,q2,q3⟩) ?_ λ_ _ z=>z)))
  rintro⟨⟨⟩,st⟩ s' ⟨rfl,q1,q2,q3⟩
  exact done st q1 q2 (by rw[q1.size_eq];exact q3)
end
section
variable {X:Cx}
theorem Inv.track {pins:List (Addr×Obj)}{σ:St}{H:Hp}{s:Shared}{a:Addr}{o:HO} (I:Inv X pins σ H s) (hn:H a=none) (hL:a≠X.env.locals) (h1:a∈X.ex\/X.s₀.heap.objs.size<=a) (h2:∀x c,X.env.cells.lookup x=some c->c≠a) (h3:∀p∈X.pn++pins,p.1≠a)
  (new:ZS X.prog X.w (upd H a o) s.heap a o):Inv X pins σ (upd H a o) s:=by
 have up:∀b u,H b=some u->upd H a o b=some u:=λb u e=>by rw[Zh (Zr e hn)];exact e
 have J:=I.step (g':=s.gens) (d':=s.drawn) (t':=s.toks) (h':=s.heap) (H':=upd H a o) (ch:=[a]) (λb hb=>?_) (λb o _ _ _ e _=>e) (λb o _ _ _ e _=>⟨o.slots,e⟩) (λb o hb e n=>?_) (λb o _ e=>⟨o,e⟩) (λb xs e=>up _ _ e) (λb o u e=>up _ _ e) (λb ps e=>⟨#[],by rw[up _ _ e];simp⟩) (λm hm=>hm) (λb u e=>?_) I.bare
 ·exact J
 ·have e:b=a:=by simpa using hb
  subst e
  exact⟨h1,hL,h2,h3⟩
 ·rw[Zh (λz=>hb (by simp[z]))];exact n
 ·by_cases z:b=a
  ·subst z;rw[Zc]at e;cases e;exact new
  ·rw[Zh z]at e
   exact(I.hok b u e).ZgD (λc v _ q=>q) (λc q=>up _ _ q) (λc xs q=>up _ _ q) λc o' u' q=>up _ _ q
theorem ZrB {pins:List (Addr×Obj)}{σ:St}{H:Hp}{s:Shared}{A':Around}{E:Value->Shared->Prop}{f:Value}{b:Bool}{a kS:Addr}{e1:Nat}{vs:List Value}{ns:List Int}{kz:Int->Int}{R:PySem.Fin->Shared->Prop}
  (I:Inv X ((kS,seqObj "list" #[] 0)::(a,seqObj "list" #[] e1)::pins) σ H s) (hk0:X.s₀.heap.objs.size<=kS) (ha0:X.s₀.heap.objs.size<=a) (ne:a≠kS) (hp:∀p∈X.pn++pins,p.1≠kS/\p.1≠a) (hv:IntsAre vs ns) (h64:vs.length<64)
  (turn:∀(H':Hp) (s':Shared) (pins':List (Addr×Obj)) (n:Int) (u:Value),n∈ns->Inv X pins' σ H' s'->Zg H H'->RelV (.int n) u->wpAny (model X.prog X.w) A' (call f [u]) (EP X pins' σ λv H2=>v=.int (kz n)/\Zg H' H2) (λ_ _=>False) s')
  (fin:∀(H':Hp) (s':Shared) (out:Array Value) (c:Nat),Inv X pins σ H' s'->Zg H H'->H' a=none->s'.heap.get? a=some (seqObj "list" out c)->KskOut b (ns.map kz) vs out.toList->R (.done (.ret .none)) s') :
  wpAny (model X.prog X.w) A' (ksk_rest a f b vs.toArray e1 (.ref kS)) R E s:=by
 have hlen:vs.length=ns.length:=hv.length
 have facts:∀{H':Hp}{s':Shared}{ps:List (Addr×Obj)}{x:Addr}{xs:Array Value}{c:Nat},Inv X ps σ H' s'->(x,seqObj "list" xs c)∈ps->s'.heap.get? x=some (seqObj "list" xs c)/\H' x=none/\x≠X.env.locals/\x∉X.fs/\∀y cc,X.env.cells.lookup y=some cc->cc≠x:=λ{H' s' ps x xs c} J hm=>by
  obtain⟨q1,q2,q3,q4,_⟩:=J.pin _ (Yv _ hm)
  refine⟨q1,q2,q3,q4,λy cc hc z=>?_⟩
  obtain⟨v,oc,w1,w2⟩:=J.cell y cc hc
  rw[z,q1]at w1;cases w1;cases w2
 unfold ksk_rest
 refine Ya (wpAny_rule ?_)
 first
  |rw[List.forIn_toArray]
  |(rw[<-Array.forIn_toList];simp only[List.toList_toArray])
 refine Ya (ksk_fold (λi s'=>∃H' kA e,Inv X ((kS,seqObj "list" kA e)::(a,seqObj "list" #[] e1)::pins) σ H' s'/\Zg H H'/\IntsAre kA.toList ((ns.take i).map kz)) vs 0 s ⟨H,#[],0,I,Zg.refl H,by simpa using IntsAre.nil⟩ ?step ?done)
 case step =>
  rintro j x s' hx ⟨H',kA,e,J,sm,hk⟩
  simp only[Nat.zero_add]at hk⊢
  have hj:j<vs.length:=(Yp.mp hx).1
  have hnj:ns[j]?=some ns[j]:=Yi (by omega)
  obtain⟨t,ht⟩:=hv.get j _ hnj
  rw[hx]at ht
  cases ht
  have hz:kA.size<=64:=by
   have h1:=hk.length
   rw[YM,Yh,YW]at h1
   omega
  refine Ya (wpAny_attempt (YB (turn H' s' _ ns[j] _ (YY _) J sm ⟨t,rfl⟩) (λv s'' he=>?_) λ_ _ hF=>hF.elim))
  obtain⟨x2,H2,J2,r2,rfl,sm2⟩:=he
  obtain⟨t2,rfl⟩:=r2
  obtain⟨o1,n1,l1,_,c1⟩:=facts J2 (YO ..)
  try dsimp only
  obtain⟨c2,hc2⟩:∃c2,(s''.heap.update kS (Obj.mapSeq (·.push (.int (kz ns[j]) t2)))).get? kS=some (seqObj "list" (kA.push (.int (kz ns[j]) t2)) c2):=⟨_,get?_update_seq o1 (·.push (.int (kz ns[j]) t2))⟩
  refine Ya (listUpdate_at o1 rfl ?_ (Yf hz (by decide)) (Yf (Y3 (Array.size_push ..)) (Nat.le_succ_of_le (Yf (Nat.succ_le_succ hz) (by decide)))))
  have J3:Inv X ((a,seqObj "list" #[] e1)::pins) σ H2 s'':=J2.Zbh λp hp'=>by
   obtain⟨q1,q2,q3,q4,q5⟩:=J2.pin p (Yv _ (YK _ hp'))
   exact⟨q1,q2,q3,q4,q5⟩
  have J4:=J3.turned (t':=s''.toks) (h':=s''.heap.update kS (Obj.mapSeq (·.push (.int (kz ns[j]) t2)))) (it:=kS) (λb o nb e=>(Heap.get?_update_ne _ _ _ _ nb).trans e) n1 l1 (.inr hk0) c1 (λp hp'=>by
   rcases YE.mp hp' with z|z
   ·exact(hp p (YN _ z)).1
   ·rcases Yl.mp z with rfl|z
    ·exact ne
    ·exact(hp p (Yv _ z)).1)
  have o1f:=(facts J2 (YO ..)).2.2.2.1
  have J5:Inv X ((kS,seqObj "list" (kA.push (.int (kz ns[j]) t2)) c2)::(a,seqObj "list" #[] e1)::pins) σ H2 {s'' with heap:=s''.heap.update kS (Obj.mapSeq (·.push (.int (kz ns[j]) t2)))}:=J4.Zbh λp hp'=>by
   rcases Yl.mp hp' with rfl|hp'
   ·exact⟨hc2,n1,l1,o1f,λv z=>by cases z⟩
   ·exact J4.pin p (Yv _ hp')
  refine Ye ⟨rfl,H2,_,_,J5,sm.trans sm2,?_⟩
  have ek:(ns.take (j+1)).map kz=(ns.take j).map kz++[kz ns[j]]:=by rw[Y6,hnj,YV];rfl
  have ea:(kA.push (Value.int (kz ns[j]) t2)).toList=kA.toList++[Value.int (kz ns[j]) t2]:=by simp
  rw[ea,ek];exact ksk_snoc hk
 case done =>
  rintro s' ⟨H',kA,e,J,sm,hk⟩
  have hk':IntsAre kA.toList (ns.map kz):=by
   rw[List.take_of_length_le (by omega)]at hk
   exact hk
  obtain⟨o1,n1,l1,f1,c1⟩:=facts J (YO ..)
  obtain⟨o2,n2,l2,f2,c2⟩:=facts J (YK _ (YO ..))
  refine Ya (listItems_at o1 rfl ?_)
  refine sk_end o1 o2 ne hk' (by rw[Yh];exact hlen.symm) h64 λout ho=>?_
  have J3:Inv X pins σ H' s':=J.Zbh λp hp'=>J.pin p (Yv _ (YK _ (YK _ hp')))
  have J4:=J3.turned (t':=s'.toks) (h':=s'.heap.update kS (Obj.mapSeq λ_=>(#[]:Array Value))) (it:=kS) (λb o nb e=>(Heap.get?_update_ne _ _ _ _ nb).trans e) n1 l1 (.inr hk0) c1 λp hp'=>(hp p hp').1
  have J5:=J4.turned (t':=s'.toks) (h':=Zmm s'.heap kS a out) (it:=a) (λb o nb e=>(Heap.get?_update_ne _ _ _ _ nb).trans e) n2 l2 (.inr ha0) c2 λp hp'=>(hp p hp').2
  have o3:(s'.heap.update kS (Obj.mapSeq λ_=>(#[]:Array Value))).get? a=some (seqObj "list" #[] e1):=(Heap.get?_update_ne _ _ _ _ ne).trans o2
  exact fin H' _ out _ J5 sm n2 (get?_update_seq o3 λ_=>out) ho
theorem ZrC {pins:List (Addr×Obj)}{σ:St}{H:Hp}{s:Shared}{A':Around}{E:Value->Shared->Prop}{f:Value}{b:Bool}{a:Addr}{e0:Nat}{vs:List Value}{ns:List Int}{kz:Int->Int}{R:PySem.Fin->Shared->Prop}
  (I:Inv X ((a,seqObj "list" vs.toArray e0)::pins) σ H s) (ha0:X.s₀.heap.objs.size<=a) (hp:∀p∈X.pn++pins,p.1≠a) (hv:IntsAre vs ns) (h64:vs.length<64)
  (turn:∀(H':Hp) (s':Shared) (pins':List (Addr×Obj)) (n:Int) (u:Value),n∈ns->Inv X pins' σ H' s'->Zg H H'->RelV (.int n) u->wpAny (model X.prog X.w) A' (call f [u]) (EP X pins' σ λv H2=>v=.int (kz n)/\Zg H' H2) (λ_ _=>False) s')
  (fin:∀(H':Hp) (s':Shared) (out:Array Value) (c:Nat),Inv X pins σ H' s'->Zg H H'->H' a=none->s'.heap.get? a=some (seqObj "list" out c)->KskOut b (ns.map kz) vs out.toList->R (.done (.ret .none)) s') :
  wpAny (model X.prog X.w) A' (ksk_tree a f b) R E s:=by
 obtain⟨oa,na,la,fa,da⟩:=I.pin _ (Yv _ (YO ..))
 have ca:∀y cc,X.env.cells.lookup y=some cc->cc≠a:=λy cc hc z=>by
  obtain⟨v,oc,w1,w2⟩:=I.cell y cc hc
  rw[z,oa]at w1;cases w1;cases w2
 have lt:=Yj oa
 obtain⟨e1,oa1⟩:∃e1,(s.heap.update a (Obj.mapSeq λ_=>(#[]:Array Value))).get? a=some (seqObj "list" #[] e1):=⟨_,get?_update_seq oa λ_=>#[]⟩
 have I0:Inv X pins σ H s:=I.Zbh λp hp'=>I.pin p (Yv _ (YK _ hp'))
 have I1:=I0.turned (t':=s.toks) (h':=s.heap.update a (Obj.mapSeq λ_=>(#[]:Array Value))) (it:=a) (λb o nb e=>(Heap.get?_update_ne _ _ _ _ nb).trans e) na la (.inr ha0) ca hp
 have sz:(s.heap.update a (Obj.mapSeq λ_=>(#[]:Array Value))).objs.size=s.heap.objs.size:=Heap.size_update ..
 have I2:=I1.kept (h':=((s.heap.update a (Obj.mapSeq λ_=>(#[]:Array Value))).push (seqObj "tuple" vs.toArray 0)).push (seqObj "list" #[] 0)) (t':=s.toks) λb o e=>Yg _ (Yg _ e)
 have sz2:((s.heap.update a (Obj.mapSeq λ_=>(#[]:Array Value))).push (seqObj "tuple" vs.toArray 0)).objs.size=s.heap.objs.size+1:=(size_push' ..).trans (congrArg (·+1) sz)
 have hge:X.s₀.heap.objs.size<=s.heap.objs.size:=I.sz
 have hkL:X.env.locals<s.heap.objs.size:=I.lt
 have nk:H (s.heap.objs.size+1)=none:=I.hok.fresh (YT _)
 unfold ksk_tree
 refine Ya (listItems_at oa rfl (Ya (listUpdate_at oa rfl (Ya (seqEpoch_at oa1 rfl (Ya (wpAny_newTuple (Ya (wpAny_newList (wpAny_holding ?_) (Yn _))) ?_)))) ?_ (Yn _))))
 ·rw[sz2]
  refine ZrB (kS:=s.heap.objs.size+1) (e1:=e1) (I2.Zbh λp hp'=>?_) (Nat.le_succ_of_le hge) ha0 (Yk (YG lt)) (λp hp'=>⟨?_,hp p hp'⟩) hv h64 turn fin
  ·rcases Yl.mp hp' with rfl|hp'
   ·exact⟨by rw[<-sz2];exact Ym _ rfl,nk,Nat.ne_of_gt (YG hkL),I.nofs (YT _),λv z=>by cases z⟩
   ·rcases Yl.mp hp' with rfl|hp'
    ·exact⟨Yg _ (Yg _ oa1),na,la,fa,λv z=>by cases z⟩
    ·exact I2.pin p (Yv _ hp')
  ·have:=Yj (I0.pin p hp').1
   exact Yk (YG this)
 ·exact Yf (show vs.length<=64 by omega) (by decide)
 ·rw[Yo];exact Yf (show vs.length<=64 by omega) (by decide)
end
theorem Zpw {prog:Program}{w:World}{A:Around}{R:Result->Shared->Prop}{s:Shared}{r S:Addr}{a b c:Int}{t u v:Tok}{n c₀:Nat} (hh:A.handled=none) (hr:IsRange s.heap r a b c t u v) (hsmall:Builtin.Range.small a b c=true)
  (hn:Builtin.Range.rangeSize a b c=n) (hlen:n<=2 ^ 24) (hS:s.heap.get? S=some {cls:=.type "list",data:=.seq #[] c₀})
  (hR:∀h' tk acc' c',(∀b o,b≠S->s.heap.get? b=some o->h'.get? b=some o)->h'.get? S=some {cls:=.type "list",dict:=none,data:=.seq acc' c',slots:=#[]}->ItemsOf (λi v=>∃t,v=.int (a+i*c) t) acc' n->R (.ok (.ret (.ref S))) {s with heap:=h',toks:=tk}) :
  codeAny (model prog w) A (.builtin "list.__iadd__" ⟨[.ref S,.ref r],[]⟩) R s :=
 codeAny_builtin entry_list_iadd' (wpAny_extend_range hh hr hsmall hn hlen S (.ref S) c₀ hS hR)
theorem Zlf {prog:Program}{w:World}{A:Around}{E:Value->Shared->Prop}{s:Shared}{r:Addr}{a b c:Int}{t u v:Tok}{n:Nat}{Q:List Value->Shared->Prop} (hh:A.handled=none) (hr:IsRange s.heap r a b c t u v) (hsmall:Builtin.Range.small a b c=true)
  (hn:Builtin.Range.rangeSize a b c=n) (hlen:n<=2 ^ 24) (h:∀(h':Heap) (tk:Nat) (acc:Array Value),(∀b o,s.heap.get? b=some o->h'.get? b=some o)->ItemsOf (λi v=>∃t,v=.int (a+i*c) t) acc n->Q acc.toList {s with heap:=h',toks:=tk}) :
  wpAny (model prog w) A (collect (.ref r)) Q E s:=by
 unfold collect
 refine Ya (wpAny_runValue (codeAny_builtin entry_proto_collect' ?_))
 show wpAny _ _ (newList [] >>= λl=>again (.builtin "list.__iadd__" ⟨[l,.ref r],[]⟩)) _ _ s
 refine Ya (wpAny_newList (Ye ⟨Code.quiet_builtin _ (by decide +kernel),?_⟩))
 refine Zpw (s:={s with heap:=s.heap.push (seqObj "list" #[] 0)}) hh (Yg _ hr) hsmall hn hlen (Ym _ rfl) λh' tk acc c' hk hS hacc=>?_
 refine Ya (wpAny_load hS (Ye (h h' tk acc (λb o e=>hk b o (Yk (Yj e)) (Yg _ e)) hacc)))
theorem Zlg (g:Int->Int):∀vs:List Value,((vs.map numOf).map g).zip vs=vs.map λv=>(g (numOf v),v)
 |[]=>rfl
 |v::vs=>by
  simp only[YF,List.zip_cons_cons]
  rw[Zlg g vs]
theorem Zmn {b:Bool}{g:Int->Int}{vs out:List Value}{ns:List Int} (hv:IntsAre vs ns) (h:KskOut b (ns.map g) vs out):∃ns',IntsAre out ns'/\ns'.Perm ns/\ns'.Pairwise λx y=>if b then g y<=g x else g x<=g y:=by
 obtain⟨ps,hp,rfl,hs⟩:=h
 have en:ns=vs.map numOf:=hv.nums.symm
 rw[en,Zlg]at hp
 have mem:∀p∈ps,p.1=g (numOf p.2)/\p.2∈vs:=λp hp'=>by
  obtain⟨v,hv',rfl⟩:=YH.mp (hp.mem_iff.mp hp')
  exact⟨rfl,hv'⟩
 refine⟨(ps.map Prod.snd).map numOf,intsAre_map _ λv hv'=>?_,?_,?_⟩
 ·obtain⟨p,hp',rfl⟩:=YH.mp hv'
  exact hv.all _ (mem p hp').2
 ·have:=(hp.map Prod.snd).map numOf
  rw[Y1 (l:=vs),show(Prod.snd ∘ λv=>(g (numOf v),v))=(id:Value->Value)from rfl,List.map_id]at this
  rw[en];exact this
 ·rw[List.pairwise_map,List.pairwise_map]
  refine hs.imp_of_mem λ{p q} hp' hq' hr=>?_
  rw[<-(mem p hp').1,<-(mem q hq').1]
  exact hr
noncomputable def nats (n:Int):List Int:=(List.range n.toNat).map λ(i:Nat)=>(i:Int)
section
variable {X:Cx}
theorem Zmo {pins:List (Addr×Obj)}{σ:St}{H:Hp}{s:Shared}{kw:List (Str×Value)}{f:Value}{b:Bool}{p:Addr}{n:Int}{kz:Int->Int}{Q:VK} (I:Inv X pins σ H s) (hc:X.calm=true) (hp:H p=some (.rng 0 n)) (h0:0<=n) (h64:n<64)
  (ha1:argsOk "sorted" ⟨[.ref p],kw⟩) (ha2:∀x,argsOk "list.sort" ⟨[.ref x],kw⟩) (ht:∀x,Builtin.«list.sort» ⟨[.ref x],kw⟩=ksk_tree x f b)
  (turn:∀(H':Hp) (s':Shared) (pins':List (Addr×Obj)) (i:Int) (u:Value),0<=i->i<n->Inv X pins' σ H' s'->Zg H H'->RelV (.int i) u->wpAny (model X.prog X.w) X.A.in1.in1 (call f [u]) (EP X pins' σ λv H2=>v=.int (kz i)/\Zg H' H2) (λ_ _=>False) s')
  (fin:∀(ns:List Int) (l:Addr) (H':Hp),ns.Perm (nats n)->(ns.Pairwise λx y=>if b then kz y<=kz x else kz x<=kz y)->Zg H H'->H l=none->H' l=some (.lst (ns.map V.int))->Q (.ref l) H') :
  wpAny (model X.prog X.w) X.A (call (.builtin "sorted") [.ref p] kw) (EP X pins σ Q) X.xe s:=by
 obtain⟨t,u,v,hob⟩:=(show ∃t u v,s.heap.get? p=some {cls:=.type "range",data:=.fields #[.int 0 t,.int n u,.int 1 v]}from I.hok p _ hp)
 refine call_function_entry_kw kind_sorted plain_sorted entry_sorted ha1 ?_
 unfold Builtin.«sorted»
 refine Ya (m:=checkCount "sorted" 1 1 _) (Ye (Ya (Zlf (n:=n.toNat) (I.ok.hd hc) hob (small_one (by omega) (by omega) (by omega) (by omega)) (by rw[rangeSize_one];split<;>omega) (by omega) λh1 tk acc k1 hacc=>Ya (wpAny_newList ?_ ?_))))
 case refine_2=>rw[YM,hacc.1];exact Yf (show n.toNat<=1000 by omega) (by decide)
 have hia:IntsAre acc.toList (nats n):=by
  have hv:Vals ((nats n).map V.int) acc.toList:=by
   unfold nats
   rw[Y1]
   exact ZmR (g:=λ(i:Nat)=>V.int (i:Int)) (P:=λ(i:Nat) v=>∃t,v=.int (0+(i:Int)*1) t) (λi v h=>by obtain⟨t,e⟩:=h;exact⟨t,by rw[e];simp⟩) _ _ (by rw[YM];exact hacc.1) λk v hk=>hacc.2 k v (by simpa using hk)
  exact intsAre_of hv
 have I1:=I.kept (t':=tk) k1
 show wpAny _ _ _ _ _ {s with heap:=h1.push (seqObj "list" acc.toList.toArray 0),toks:=tk}
 have oa:(h1.push (seqObj "list" acc.toList.toArray 0)).get? h1.objs.size=some (seqObj "list" acc.toList.toArray 0):=Ym _ rfl
 have I2:=I1.kept (h':=h1.push (seqObj "list" acc.toList.toArray 0)) (t':=tk) λb o e=>Yg _ e
 have na:H h1.objs.size=none:=I1.hok.fresh (Yd _)
 have la:h1.objs.size≠X.env.locals:=Nat.ne_of_gt I1.lt
 have a0:X.s₀.heap.objs.size<=h1.objs.size:=I1.sz
 have hl:acc.toList.length<64:=by rw[YM,hacc.1];omega
 refine Ya (wpAny_holding (wpAny_call_entry_kw slot_list_sort ⟨_,oa,rfl⟩ entry_list_sort ?body (ha2 _)))
 case body =>
  show wpAny (model X.prog X.w) X.A.in1.in1 (Builtin.«list.sort» ⟨[.ref h1.objs.size],kw⟩) _ _ _
  rw[ht]
  refine ZrC (e0:=0) (pins:=pins) (ns:=nats n) (kz:=kz) (I2.Zbh λq hq=>?_) a0 (λq hq=>?_) hia hl (λH' s' pins' i u hi J sm r=>?_) λH' s' out c J sm n2 o2 ko=>⟨_,rfl,Ye ⟨_,rfl,?_⟩⟩
  ·rcases Yl.mp hq with rfl|hq
   ·exact⟨oa,na,la,I1.nofs (Yd _),λv z=>by cases z⟩
   ·exact I2.pin q (Yv _ hq)
  ·exact Yk (Yj (I1.pin q hq).1)
  ·obtain⟨k,hk,rfl⟩:=YH.mp hi
   have:=Yz.mp hk
   exact turn H' s' pins' _ u (by omega) (by omega) J sm r
  ·obtain⟨ns,hi,hpm,hpw⟩:=Zmn hia ko
   have ca:∀y cc,X.env.cells.lookup y=some cc->cc≠h1.objs.size:=λy cc hc' z=>by
    obtain⟨v,oc,w1,w2⟩:=I1.cell y cc hc'
    exact absurd (Yj w1) (by rw[z];exact YA _)
   have K:=J.track (a:=h1.objs.size) (o:=.lst (ns.map V.int)) n2 la (.inr a0) ca (λq hq=>Yk (Yj (I1.pin q hq).1)) ⟨?_,out.toList,c,ZgJ hi,by rw[Array.toArray_toList];exact o2⟩
   ·exact⟨.ref h1.objs.size,_,K,rfl,fin ns _ _ hpm hpw (λb o e=>by rw[Zh (Zr e na)];exact sm _ _ e) na Zc⟩
   ·rw[Yh,hpm.length_eq]
    unfold nats
    rw[Yh,YZ]
    exact Yf (show n.toNat<=1000 by omega) (by decide)
noncomputable def tSortR2 (ta td:TA) (tb:TE) (js:List (Option Nat)) (env:Env) (P:Addr) (q:Str) (params:Arguments) (body:Expr) (scope:Scope):TE:=fun σ H Q=>ta σ H λvs H1=>td σ H1 λzs H2=>∃(p f:Addr) (n:Int) (kz:Int->Int),
 vs=[.ref p]/\zs=[.ref f,.bl true]/\H2 p=some (.rng 0 n)/\0<=n/\n<64/\Zmk env P q params body scope H2 f /\
 (∀i H3,0<=i->i<n->Zg H2 H3->tb ((iniC js σ).set 0 (some (.int i))) H3 λv H4=>v=.int (kz i)/\Zg H3 H4) /\
 ∀(ns:List Int) (l:Addr) (H3:Hp),ns.Perm (nats n)->(ns.Pairwise λx y=>kz y<=kz x)->Zg H2 H3->H2 l=none->H3 l=some (.lst (ns.map V.int))->Q (.ref l) H3
theorem Zpx {pins':List (Addr×Obj)}{σ:St}{H':Hp}{s':Shared}{Nc:List Str}{js:List (Option Nat)}{q pn:Str}{params:Arguments}{body:Expr}{scope:Scope}{P f:Addr}{tb:TE}{Q:VK}{m:Nat}{i:Int}{u:Value} (hr:Room m X.A)
  (S:LamSc X Nc js params body scope pn) (hbody:∀cl L f c s H,PE (Zle X X.A.in1.in1 Nc q scope cl L f c s H) body tb) (J:Inv X pins' σ H' s') (L:Zmk X.env P q params body scope H' f) (r:RelV (.int i) u)
  (h:tb ((iniC js σ).set 0 (some (.int i))) H' Q):wpAny (model X.prog X.w) X.A.in1.in1 (call (.ref f) [u]) (EP X pins' σ Q) (λ_ _=>False) s' :=
 Zpu S hbody J J.ok.frames J.ok.hd hr.depth L r h
theorem ZnM {Nc:List Str}{js:List (Option Nat)}{q pn:Str}{params:Arguments}{body:Expr}{scope:Scope}{P:Addr}{ta td:TA}{tb:TE}{m:Nat}{e:Expr}{e2:Expr}{p pos lpos kp1 kp2:Pos} (hc:X.calm=true) (hr:Room m X.A) (S:LamSc X Nc js params body scope pn)
  (hbody:∀cl L f c s H,PE (Zle X X.A.in1.in1 Nc q scope cl L f c s H) body tb) (hg:Gl X "sorted") (hm:X.mg "sorted"=none) (ha:PA X [e] ta) (hd:PK X [⟨some (Str.ofString "key"),.Lambda params body scope lpos,kp1⟩,⟨some (Str.ofString "reverse"),e2,kp2⟩] td)
  (hpl:(backTo pos (starEach [e] X.env)).any (·.1)=false:=by rfl) (hall:(backToKw pos (keywordEach [⟨some (Str.ofString "key"),.Lambda params body scope lpos,kp1⟩,⟨some (Str.ofString "reverse"),e2,kp2⟩] X.env)).all (·.1.isSome)=true:=by rfl)
  (hnn:(backToKw pos (keywordEach [⟨some (Str.ofString "key"),.Lambda params body scope lpos,kp1⟩,⟨some (Str.ofString "reverse"),e2,kp2⟩] X.env)).any (·.1.isNone)=false:=by rfl) (hks:(backToKw pos (keywordEach [⟨some (Str.ofString "key"),.Lambda params body scope lpos,kp1⟩,⟨some (Str.ofString "reverse"),e2,kp2⟩] X.env)).filterMap (·.1)=[Str.ofString "key",Str.ofString "reverse"]:=by rfl) (hb:backTo pos (starEach [e] X.env)=(false,eval e X.env)::backTo pos (starEach [] X.env):=by rfl) :
  PE X (.Call (.Name "sorted" p) [e] [⟨some (Str.ofString "key"),.Lambda params body scope lpos,kp1⟩,⟨some (Str.ofString "reverse"),e2,kp2⟩] pos) (tSortR2 ta td tb js X.env P q params body scope):=by
 intro pins s σ H Q I h
 refine wpAny_Call_Name_kw (ZaW I hg hm ZnF ?_)
 refine PyProof.Rows.callWith_kw (thn (ha pos pins s σ H _ I h) λus s1 ⟨vs,H1,I1,r1,q1⟩=>?_) hb hpl hall hnn
 refine thn (hd pos pins s1 σ H1 _ I1 q1) λws s2 ⟨zs,H2,I2,r2,pp,f,n,kz,e1,e2,hp,h0,h64,L,tn,fin⟩=>?_
 subst e1 e2
 obtain⟨u,rfl,ru⟩:=r1.one
 cases(show u=Value.ref pp from ru)
 rw[hks]
 obtain⟨v,v2,rfl,rv,rv2⟩:=r2.two
 cases(show v=Value.ref f from rv)
 cases(show v2=Value.bool true from rv2)
 exact Zmo (f:=.ref f) (b:=true) (kz:=kz) I2 hc hp h0 h64 (ksk_s2 _ _ _) (λx=>ksk_l2 _ _ _) (λx=>ksk_t2 _ _ _) (λH' s' pins' i u hi0 hi1 J sm r=>Zpx hr S hbody J (L.same sm) r (tn i H' hi0 hi1 sm)) (λns l H' a1 a2=>fin ns l H' a1 a2)
end
noncomputable def lamQ (x:Str):Str:=(x++".<locals>.")++"<lambda>"
noncomputable def Zb6 (K:Frag) (mg:Str->Option Value) (x:Str) (H:Hp):Prop:=H (Zkh K mg x)=some (Zit (lamQ x))
theorem Zb6.same {K:Frag}{mg:Str->Option Value}{x:Str}{H H':Hp} (h:Zb6 K mg x H) (s:Zg H H'):Zb6 K mg x H':=s _ _ h
noncomputable def LamD (K:Frag) (mg:Str->Option Value) (x:Str) (f:Addr):Prop:=∃c,ZnK K f=some c/\codeHdIn K c (Zkh K mg x)=true
section
variable {P:Program}{w:World}{K:Frag}{mg:Str->Option Value}{base:Heap}
theorem Fun.okL {x qual:Str}{st:Stmt}{f:Addr}{fd:FuncData}{N ps:List Str}{k:Nat}{sp:Sp} (F:Fun K x qual st f fd) (L:LamD K mg qual f) (B:BM mg base) (S:FnScope N ps (defScope st)) (len:∀vs H Q E,sp vs H Q E->vs.length=ps.length)
  (hbody:∀(cdv:Value) (A:Around) (outer:List Env) (s:Shared) (H:Hp) (vs:List V) (Q:VK) (E:XK),LamIn (Zf5 (CXE P w) P w K mg base N qual (defScope st) f cdv A outer s H E) (Zkh K mg qual) (lamQ qual)->Room k (A.deeper (envOfC qual (defScope st) s.heap.objs.size f cdv))->sp vs H Q E ->
   ∃t,PSs (Zf5 (CXE P w) P w K mg base N qual (defScope st) f cdv A outer s H E) (defBody st) t/\t {nx:=λ_ H'=>Q .non H',rt:=Q} (start N vs) H):FnOk P w K mg base (CXE P w) (k+1) f fd ps sp:=by
 obtain⟨oc,od,kV,doc,pm,an,cdv,ct,osl,rfl,lk,hcd⟩:=F.ex
 obtain⟨c,h1,h2⟩:=L
 have e:cdv=.ref c:=by
  unfold ZnK at h1
  rw[lk]at h1
  dsimp only at h1
  cases cdv<;>first|(cases h1;rfl)|(cases h1;done)
 exact fn_of lk hcd S len λA outer s H vs Q E hr hsp=>hbody cdv A outer s H vs Q E ⟨⟨c,e,h2⟩,B,rfl⟩ hr hsp
end
theorem Zpy {b:Addr}{q:Str}:∀{l:List (Addr×Str)},l.lookup b=some q->(b,q)∈l
 |[],e=>by cases e
 |(c,y)::r,e=>by
  rw[List.lookup_cons]at e
  cases hb:b==c with
  |true=>rw[hb]at e;cases e;rw[eq_of_beq hb];exact YO
  |false=>rw[hb]at e;exact YK _ (Zpy e)
theorem ZrD {K:Frag}{mg:Str->Option Value}{x:Str}{f c T:Addr}{oc1 oc2:Value}{od1 od2:Option Addr}{fd:FuncData}{sl1 sl2:Array (Option Value)}{vs:Array Value} (hm:mg x=some (.ref f)) (l1:K.lookup f=some ⟨oc1,od1,.func fd,sl1⟩) (e:fd.code=.ref c) (l2:K.lookup c=some ⟨oc2,od2,.fields vs,sl2⟩) (h11:vs[11]?=some (.ref T)):Zkh K mg x=T/\ZnK K f=some c:=by
 have h1:ZnK K f=some c:=by
  unfold ZnK
  rw[l1]
  dsimp only
  rw[e]
 refine⟨?_,h1⟩
 unfold Zkh
 rw[hm]
 dsimp only
 rw[h1]
 dsimp only
 unfold tabOf
 rw[l2]
 dsimp only
 rw[h11]
theorem ZnN {P:Program}{w:World}{K:Frag}{mg mb:Str->Option Value}{CX:CXT}{k:Nat}{fa a:Addr}{fd:FuncData}{x:Str}{sp:Sp}{s₁:Shared}{vs:List Value}{ns:List Int}{tabs:List (Addr×Str)}
  (KX:K.In s₁.heap) (hns:s₁.heap.Ns mainGlobals mg) (hb:s₁.heap.Ns builtinsNs mb) (hbb:∀x:Str,x≠"__name__"->mb x=bootBuiltins x) (hlim:s₁.heap.NoLimit) (hg:s₁.gens=#[]) (hbm:BM mg s₁.heap)
  (ha:s₁.heap.get? a=some {cls:=.type "list",data:=.seq vs.toArray}) (hi:IntsAre vs ns) (hl:ns.length<=sizeLine) (hr:Room k callerA)
  (hT:∀p∈tabs,s₁.heap.get? p.1=some (tabObj #[])/\K.lookup p.1=none/\∃c,codeHdIn K c p.1=true) (nd:(tabs.map (·.1)).Nodup)
  (F:∀base:Heap,K.In base->base.Ns mainGlobals mg->BM mg base->FnOk P w K mg base CX k fa fd [x] sp) (hbind:∀(s:Shared) (u:Value),BindsTo s fd ⟨[u],[]⟩ [(x,u)])
  (hsp:∀H:Hp,SqL K H a (ns.map V.int)->(∀p∈tabs,H p.1=some (Zit p.2))->sp [.ref a] H (λv _=>v=.bl true) λ_ _ _=>False)
  (hCX:∀H e s',CX [] H s₁ (λ_ _ _=>False) e s'->False) :
  codeAny (model P w) callerA (.call (.ref fa) ⟨[.ref a],[]⟩) (λr s'=>r=.ok (.ret (.bool true))/\OldK s₁.heap s'.heap/\s'.os=s₁.os/\AllBare s'.gens) s₁:=by
 have rv:=ZgJ hi
 have lenV:=hi.length
 have tmem:∀b q,tabs.lookup b=some q->(b,q)∈tabs:=λb q e=>Zpy e
 have tlook:∀p∈tabs,tabs.lookup p.1=some p.2:=by
  clear hT hsp tmem
  induction tabs with
  |nil=>intro p hp;cases hp
  |cons t r ih =>
   intro p hp
   rw[YF,List.nodup_cons]at nd
   rcases Yl.mp hp with rfl|hp
   ·rw[List.lookup_cons,beq_self_eq_true]
   ·have:(p.1==t.1)=false:=beq_eq_false_iff_ne.mpr λz=>nd.1 (YH.mpr ⟨p,hp,z⟩)
    rw[List.lookup_cons,this]
    exact ih nd.2 p hp
 have core:∀H:Hp,SqL K H a (ns.map V.int)->HOk P w H s₁.heap->(∀b,H b=none\/(b=a/\K.lookup a=none/\∃o xs,H b=some (.frz o (.lst xs)))\/∃q,(b,q)∈tabs/\H b=some (Zit q))->(∀p∈tabs,H p.1=some (Zit p.2)) ->
   codeAny (model P w) callerA (.call (.ref fa) ⟨[.ref a],[]⟩) (λr s'=>r=.ok (.ret (.bool true))/\OldK s₁.heap s'.heap/\s'.os=s₁.os/\AllBare s'.gens) s₁:=by
  intro H hS hok hA hTb
  have base_of:∀{b:Addr}{o:Obj},s₁.heap.get? b=some o->H b=none->(Zi6 s₁.heap H).get? b=some o:=λe n=>ZoK e n
  have noA:∀{b:Addr}{o:Obj},s₁.heap.get? b=some o->o.cls≠.type "list"->o.cls≠.none->H b=none:=λ{b o} e d1 d2=>by
   rcases hA b with z|⟨z,_⟩|⟨q,z,_⟩
   ·exact z
   ·subst z;rw[ha]at e;cases e;exact absurd rfl d1
   ·rw[(hT _ z).1]at e;cases e;exact absurd rfl d2
  have noD:∀{b:Addr}{o:Obj}{es:Array DictEntry}{ep:Nat},s₁.heap.get? b=some o->o.data=.dict es ep->H b=none:=λ{b o es ep} e d=>by
   rcases hA b with z|⟨z,_⟩|⟨q,z,_⟩
   ·exact z
   ·subst z;rw[ha]at e;cases e;cases d
   ·rw[(hT _ z).1]at e;cases e;cases d
  have nsK:∀{b:Addr}{m:Str->Option Value},s₁.heap.Ns b m->(Zi6 s₁.heap H).Ns b m:=λ{b m} ⟨o,es,ep,e,d,r⟩=>⟨o,es,ep,base_of e (noD e d),d,r⟩
  have hKb:K.In (Zi6 s₁.heap H):=λb o e=>base_of (KX b o e) (by
   rcases hA b with z|⟨z,zk,_⟩|⟨q,z,_⟩
   ·exact z
   ·subst z;rw[zk]at e;cases e
   ·rw[(hT _ z).2.1]at e;cases e)
  have hM:Mod K mg (Zi6 s₁.heap H):=⟨hKb,nsK hns,⟨mb,nsK hb,hbb⟩,let ⟨mc,h1,h2⟩:=hlim;⟨mc,nsK h1,h2⟩⟩
  have hB:BM mg (Zi6 s₁.heap H):=by
   obtain⟨bm,ob,b1,b2,b3,b4,b5,b6,b7⟩:=hbm
   exact⟨bm,ob,b1,b2,b3,base_of b4 (noA b4 (by rw[b5];decide) (by rw[b5];nofun)),b5,b6,b7⟩
  have e0:Env0 P w K mg (Zi6 s₁.heap H) callerA [] s₁ H:=⟨rfl,hM,λb o e=>Zq2 e,Y3 (Zm6 _ _),trivial,λb hb=>absurd (show b∈([]:List Addr)from hb) (by simp),hok,.of_eq hg⟩
  refine codeAny_mono ((F _ hKb (nsK hns) hB).run callerA [] s₁ H ⟨[.ref a],[]⟩ [.ref a] [.ref a] _ _ hr e0 (hbind s₁ (.ref a)) (.cons rfl .nil) (hsp H hS hTb)) λr s' h=>?_
  cases r with
  |error e=>exact(hCX H e s' h).elim
  |ok fl =>
   cases fl with
   |next=>exact False.elim h
   |brk=>exact False.elim h
   |cont=>exact False.elim h
   |ret u =>
    obtain⟨v,H',os,bare,un,hok',r',q⟩:=h
    have q':v=.bl true:=q
    subst q'
    obtain rfl:u=Value.bool true:=r'
    have old:∀b o,s₁.heap.get? b=some o->asItWas s₁.heap s'.heap b o/\∃o',s'.heap.get? b=some o':=λb o e=>by
     rcases hA b with z|⟨_,_,ob,xs,z⟩|⟨q,zm,z⟩
     ·have:=un.keep b o e z (by intro y;exact absurd (show b∈([]:List Addr)from y) (by simp)) (by simp)
      exact⟨.inl this,o,this⟩
     ·have z2:=un.frzs b ob _ z
      obtain⟨e1,_⟩:=hok b _ z
      obtain⟨e2,_⟩:=hok' b _ z2
      rw[e]at e1;cases e1
      exact⟨.inl e2,o,e2⟩
     ·obtain⟨more,z2⟩:=un.tbls b _ z
      obtain⟨ts,e2,_⟩:=hok' b _ z2
      obtain⟨t1,_,c,t3⟩:=hT _ zm
      have t1':s₁.heap.get? b=some (tabObj #[]):=t1
      rw[e]at t1';cases t1'
      refine⟨.inr (.inl ⟨((codeHd_of_K KX t3).tab t1).isCodeTable,rfl,#[],ts,rfl,by rw[Array.empty_append];exact e2⟩),_,e2⟩
    exact⟨rfl,⟨λb o e=>(old b o e).1,λb o e=>(old b o e).2⟩,os,bare⟩
 have neA:∀q,(a,q)∉tabs:=λq z=>by
  have:=(hT _ z).1
  rw[show((a,q):Addr×Str).1=a from rfl,ha]at this;cases this
 have tabok:∀(H:Hp) (b:Addr) (q:Str),(b,q)∈tabs->ZS P w H s₁.heap b (Zit q):=λH b q z=>⟨#[],(hT _ z).1,trivial,λpos cv e=>by cases e⟩
 cases hk:K.lookup a with
 |some o =>
  have e:=KX a o hk
  rw[ha]at e
  cases e
  refine core (λb=>(tabs.lookup b).map Zit) (.inr ⟨_,vs.toArray,_,hk,rfl,rfl,rfl,by rw[Yo,lenV];exact hl,by simpa using rv⟩) (λb u z=>?_) (λb=>?_) λp hp=>by rw[tlook p hp];rfl
  ·dsimp only at z
   cases q:tabs.lookup b with
   |none=>rw[q]at z;cases z
   |some y=>rw[q]at z;cases z;exact tabok _ b y (tmem b y q)
  ·cases q:tabs.lookup b with
   |none=>exact .inl rfl
   |some y=>exact .inr (.inr ⟨y,tmem b y q,rfl⟩)
 |none =>
  refine core (λb=>if b=a then some (.frz {cls:=.type "list",data:=.seq vs.toArray} (.lst (ns.map V.int)))else (tabs.lookup b).map Zit) (.inl (.inr ⟨{cls:=.type "list",data:=.seq vs.toArray},Yc rfl⟩)) (λb u z=>?_) (λb=>?_) λp hp=>?_
  ·by_cases hb:b=a
   ·have z':=(Yc hb).symm.trans z
    cases z'
    subst hb
    exact⟨ha,by rw[Yh];exact hl,vs,_,rv,ha⟩
   ·have z':=(Yb hb).symm.trans z
    cases q:tabs.lookup b with
    |none=>rw[q]at z';cases z'
    |some y=>rw[q]at z';cases z';exact tabok _ b y (tmem b y q)
  ·by_cases hb:b=a
   ·exact .inr (.inl ⟨hb,hk,_,_,Yc hb⟩)
   ·cases q:tabs.lookup b with
    |none=>exact .inl (by rw[Yb hb];rfl)
    |some y=>exact .inr (.inr ⟨y,tmem b y q,by rw[Yb hb];rfl⟩)
  ·have:p.1≠a:=λz=>neA p.2 (by rw[<-z];exact hp)
   rw[Yb this,tlook p hp];rfl
theorem Zpz {l:OpenLaw}{n k:Nat}{q:Program}{loose:List Str}{XP:(Str->Option Value)->Heap->Prop}{YP:World->Heap->Prop}{d:DefRec}{K:Params->Frag}{CX:World->CXT}{sp:World->(Str->Option Value)->Sp}{x:Str}{ts:List Addr}{tabs:Frag->(Str->Option Value)->List (Addr×Str)}
  (hn:l.most=some n) (hn2:n<=sizeLine) (hdf:d.params.defaults=[]) (hr:Room k callerA)
  (hY:∀(w:World) (h:Heap),YP w h->(K w.params).In h) (hY2:∀(w:World) (h:Heap),YP w h->∀P∈ts,h.get? P=some (tabObj #[]))
  (F:∀(w:World) (mg:Str->Option Value) (fa:Addr) (h:Heap),(K w.params).In h->h.Ns mainGlobals mg->mg d.name=some (.ref fa) ->
   ∃fd:FuncData,(∀(s:Shared) (u:Value),BindsTo s fd ⟨[u],[]⟩ [(x,u)])/\(∀p∈tabs (K w.params) mg,p.1∈ts/\(K w.params).lookup p.1=none/\∃c,codeHdIn (K w.params) c p.1=true)/\((tabs (K w.params) mg).map (·.1)).Nodup /\
    ∀base:Heap,(K w.params).In base->base.Ns mainGlobals mg->BM mg base->FnOk l.prog w (K w.params) mg base (CX w) k fa fd [x] (sp w mg))
  (hsp:∀(w:World) (mg:Str->Option Value) (H:Hp) (a:Addr) (ns:List Int),ns.length<=n->SqL (K w.params) H a (ns.map V.int)->(∀p∈tabs (K w.params) mg,H p.1=some (Zit p.2))->sp w mg [.ref a] H (λv _=>v=.bl true) λ_ _ _=>False)
  (hCX:∀(w:World) (H:Hp) (s:Shared) (e:Value) (s':Shared),CX w [] H s (λ_ _ _=>False) e s'->False) :
  WalkO q loose XP YP l.row.toRowW d [] (λf vs=>PySem.call f vs):=by
 refine Att.ZkW hn hdf λw s₀ s₁ mg mb fa o pm cd doc a vs ns G Y ho hd hcd hmg hobj hints hlen hg=>?_
 have KX:=hY w _ Y
 have TX:=hY2 w _ Y
 obtain⟨fd,hb,hT,nd,hF⟩:=F w mg fa _ KX G.T.g hmg
 have hbm:BM mg s₁.heap:=by
  obtain⟨bm,ob,b1,b2,b3,b4,b5,b6⟩:=G.T.bmain
  have bG:bm≠mainGlobals:=λz=>by
   obtain⟨o,es,ep,e,hd,_⟩:=G.T.g
   rw[z,e]at b3;cases b3;rw[hd]at b6;cases b6
  exact⟨bm,ob,b1,b2,bG,b3,b4,b5,b6⟩
 exact ZnN KX G.T.g G.T.b G.T.builtins G.T.nolimit hg hbm hobj hints (Yf hlen hn2) hr (λp hp=>⟨TX _ (hT p hp).1,(hT p hp).2⟩) nd hF hb (λH hS hTb=>hsp w mg H a ns hlen hS hTb) λH e s'=>hCX w H s₁ e s'
section
variable {prog:Program}{w:World}{A:Around}{E:Value->Shared->Prop}{s:Shared}
theorem ZjP {it t:Addr}{items:Array Value} (hh:A.handled=none) (hne:t≠it):∀(n i:Nat) (s:Shared) (Q:List Value->Shared->Prop),s.heap.IsListIter it t i->s.heap.IsList t items->i+n<=items.size ->
  (∀h' tk,h'.IsListIter it t (i+n)->h'.IsList t items->(∀b o,b≠it->s.heap.get? b=some o->h'.get? b=some o)->Q ((items.toList.drop i).take n) {s with heap:=h',toks:=tk})->wpAny (model prog w) A (draw (.ref it) n) Q E s
 |0,i,s,Q,hit,hl,_,hQ=>by
  show wpAny _ _ (pure []) Q E s
  exact Ye (by simpa using hQ s.heap s.toks hit hl λb o _ e=>e)
 |n+1,i,s,Q,hit,hl,hle,hQ=>by
  have hlt:i<items.size:=by omega
  have W:=Walks.list (prog:=prog) (w:=w) (A:=A) hh it t hne items
  show wpAny _ _ (pyNext (.ref it) >>= _) Q E s
  refine Ya (W.item i _ _ _ hlt ⟨hit,hl⟩ λv h₁ tk₁ hP hst hk=>?_)
  have hv:items[i]?=some v:=hP
  rw[getElem?_pos items i hlt]at hv
  cases hv
  refine Ya (wpAny_holding (ZjP hh hne n (i+1) _ _ hst.1 hst.2 (by omega) λh₂ tk₂ hit₂ hl₂ hk₂=>Ye ?_))
  have hd:items.toList.drop i=items[i]::items.toList.drop (i+1):=by simp[List.drop_eq_getElem_cons,hlt]
  have:=hQ h₂ tk₂ (by rw[show i+(n+1)=i+1+n by omega];exact hit₂) hl₂ λb o hb e=>hk₂ b o hb (hk b o (by simpa using hb) e)
  rw[hd,List.take_succ_cons]at this
  exact this
theorem ZgV {t:Addr}{items:Array Value}{Q:List Value->Shared->Prop} (hh:A.handled=none) (ht:s.heap.IsList t items)
  (hQ:∀h' tk,(∀b o,s.heap.get? b=some o->h'.get? b=some o)->Q items.toList {s with heap:=h',toks:=tk}):wpAny (model prog w) A (unpackItems (.ref t) items.size none) Q E s:=by
 have hlt:t≠s.heap.objs.size:=by obtain⟨o,ho,_⟩:=ht;exact Yk (Yj ho)
 have old:∀b o,s.heap.get? b=some o->b≠s.heap.objs.size:=λb o e=>Yk (Yj e)
 unfold unpackItems
 refine Ya ?_
 ·unfold notIterableAtAll
  refine Ya (wpAny_specialOf ht.typeIs slot_list_iter.lookup ?_)
  refine Ye ?_
  simp only[Bool.false_eq_true,if_false]
  refine Ya (wpAny_holding (wpAny_pyIter_list ht ?_))
  have hl2:(s.heap.push {cls:=.type "list_iterator",data:=.fields #[.ref t,.int 0 0]}).IsList t items:=by
   obtain⟨o,e,r⟩:=ht
   exact⟨o,Yg _ e,r⟩
  refine Ya (wpAny_holding (ZjP hh hlt items.size 0 _ _ ⟨_,Ym _ rfl,rfl,rfl⟩ hl2 (by omega) λh₁ tk₁ hit₁ hl₁ hk₁=>?_))
  have hall:List.take items.size (List.drop 0 items.toList)=items.toList:=by
   rw[List.drop_zero];exact List.take_of_length_le (by simp)
  rw[hall]
  rw[Yb (by simp)]
  have W:=Walks.list (prog:=prog) (w:=w) (A:=A) hh s.heap.objs.size t hlt items
  refine Ya (wpAny_holding (W.done _ _ _ ⟨by rw[Nat.zero_add]at hit₁;exact hit₁,hl₁⟩ λh₂ tk₂ hk₂=>?_))
  simp only[Option.isSome_none,Bool.false_eq_true,if_false]
  exact Ye (hQ h₂ tk₂ λb o e=>hk₂ b o (by simpa using old b o e) (hk₁ b o (old b o e) (Yg _ e)))
end
section
variable {X:Cx}
noncomputable def gLst (K:PySem.W.Frag) (n:Nat) (t:TGs):TG:=λv σ H Q=>∃a xs,v=.ref a/\SqL K H a xs/\xs.length=n/\t xs σ H Q
theorem pg_lst {K:Frag}{es:List Expr}{pos:Pos}{k:Nat}{t:TGs}{n:Nat} (hK:X.K=K) (hc:X.calm=true) (h:PGs X es t)
  (hn:(assignEach es X.env).length=n:=by rfl) (hst:(assignEach es X.env).findIdx? (·.1)=none:=by rfl):PG X (.Tuple es k pos) (gLst K n t):=by
 subst hK
 intro pins s σ H v u Q I r hw
 obtain⟨a,xs,e1,hq,hl,hw⟩:=hw
 subst e1
 cases r
 obtain⟨its,rv,pl,hz⟩:=I.list hq
 have hlen:(assignEach es X.env).length=its.toArray.size:=by
  have:=rv.length
  rw[hn,Yo];omega
 rw[assign_Tuple]
 refine Ya (wpAny_standAt ?_)
 unfold unpack
 rw[hlen,hst]
 refine Ya (wpAny_holding (ZgV (I.ok.hd hc) pl.isList λh' tk kp=>?_))
 exact h pins _ σ H xs _ Q (I.kept kp) (by simpa using rv) hw
end
section
variable {ky:Keyed->Int}
noncomputable def Srt (ky:Keyed->Int) (l:List Keyed):Prop:=l.Pairwise (λx y=>ky x<=ky y)
variable {a b out:List Keyed}{ia ib:Nat}
noncomputable def Gd (ky:Keyed->Int) (a b res:List Keyed):Prop:=res.Perm (a++b)/\Srt ky res
variable {prog:Program}{w:World}{A:Around}{E:Value->Shared->Prop}{s:Shared}{κ:SortKind}{P:Keyed->Prop}
end
section
variable {ky:Keyed->Int}
noncomputable def kp (ky:Keyed->Int) (a:Array Keyed) (i:Nat):Int:=ky (a.getD i (Value.none,Value.none))
theorem kp_at {a:Array Keyed}{i:Nat} (h:i<a.size):kp ky a i=ky a[i]:=by unfold kp;simp[Array.getD,h]
noncomputable def SoR (ky:Keyed->Int) (a:Array Keyed) (l r:Nat):Prop:=∀i j,l<=i->i<=j->j<r->kp ky a i<=kp ky a j
structure Chg (a a':Array Keyed) (l r:Nat):Prop where
 perm:a'.Perm a
 same:∀i,i<l\/r<=i->a'[i]?=a[i]?
variable {prog:Program}{w:World}{A:Around}{E:Value->Shared->Prop}{s:Shared}{κ:SortKind}{P:Keyed->Prop}
end
section
variable {ky:Keyed->Int}
variable {a a':Array Keyed}
theorem Zm1 (base:Nat):∀(m:List Keyed) (n:Nat) (a:Array Keyed),base+n+m.length<=a.size ->
  (List.foldl (λ(a:Array Keyed) (x:Keyed×Nat)=>a.setIfInBounds (base+x.2) x.1) a (m.zipIdx n)).toList=a.toList.take (base+n)++m++a.toList.drop (base+n+m.length)
 |[],n,a,h=>by simp
 |x::m,n,a,h=>by
  simp only[Yq]at h
  rw[List.zipIdx_cons,List.foldl_cons,Zm1 base m (n+1) _ (by simp;omega)]
  simp only[Array.toList_setIfInBounds,Yq]
  have e1:(a.toList.set (base+n) x).take (base+(n+1))=a.toList.take (base+n)++[x]:=by
   rw[<-Nat.add_assoc,Y6,List.take_set,List.getElem?_set]
   rw[List.set_eq_of_length_le (by simp;omega)]
   simp[show base+n<a.size by omega]
  have e2:(a.toList.set (base+n) x).drop (base+(n+1)+m.length)=a.toList.drop (base+n+(m.length+1)):=by
   rw[List.drop_set_of_lt (by omega)]
   congr 1;omega
  rw[e1,e2]
  simp
variable {prog:Program}{w:World}{A:Around}{E:Value->Shared->Prop}{s:Shared}{κ:SortKind}{P:Keyed->Prop}
theorem laid {base mid r:Nat}{res:Array Keyed} (h1:base<=mid) (h2:mid<=r) (h3:r<=a.size) (hg:Gd ky (a.extract base mid).toList (a.extract mid r).toList res.toList) :
  ∃a':Array Keyed,List.foldl (λ(a:Array Keyed) (x:Keyed×Nat)=>a.setIfInBounds (base+x.2) x.1) a res.toList.zipIdx=a'/\Chg a a' base r/\SoR ky a' base r/\∀j,base<=j->j<r->∃t,base<=t/\t<r/\kp ky a' j=kp ky a t:=by
 have hlen:res.toList.length=r-base:=by
  have:=hg.1.length_eq
  simp only[YD,YM,Array.size_extract]at this⊢;omega
 have key:=Zm1 base res.toList 0 a (by omega)
 have hb:base+0+res.toList.length=r:=by omega
 rw[hb,Nat.add_zero]at key
 refine⟨_,rfl,⟨?_,?_⟩,?_,?_⟩
 ·rw[Array.perm_iff_toList_perm,key]
  have e:a.toList=a.toList.take base++((a.extract base mid).toList++(a.extract mid r).toList)++a.toList.drop r:=by
   simp only[Array.toList_extract,List.extract_eq_drop_take]
   have:(a.toList.drop base).take (mid-base)++(a.toList.drop mid).take (r-mid)=(a.toList.drop base).take (r-base):=by
    have e2:r-base=(mid-base)+(r-mid):=by omega
    rw[e2,List.take_add,List.drop_drop]
    congr 3;omega
   rw[this]
   have e3:a.toList.drop r=(a.toList.drop base).drop (r-base):=by rw[List.drop_drop];congr 1;omega
   rw[e3,YX,List.take_append_drop,List.take_append_drop]
  conv=>rhs;rw[e]
  exact List.Perm.append_right _ (List.Perm.append_left _ hg.1)
 ·intro i hi
  rw[<-Array.getElem?_toList,<-Array.getElem?_toList,key]
  have hl0:(a.toList.take base).length=base:=by simp;omega
  rcases hi with hi|hi
  ·rw[YX,YU (by omega),List.getElem?_take_of_lt hi]
  ·rw[Y2 (by simp;simp at hlen;omega),List.getElem?_drop]
   congr 1
   simp only[YD,hl0,hlen];omega
 all_goals
  have atm:∀j,(hj0:base<=j)->(hj:j<r)->kp ky (List.foldl (λ(a:Array Keyed) (x:Keyed×Nat)=>a.setIfInBounds (base+x.2) x.1) a res.toList.zipIdx) j=ky (res.toList[j-base]'(by omega)):=by
   intro j j1 j2
   have hl0:(a.toList.take base).length=base:=by simp;omega
   have:(List.foldl (λ(a:Array Keyed) (x:Keyed×Nat)=>a.setIfInBounds (base+x.2) x.1) a res.toList.zipIdx)[j]?=some (res.toList[j-base]'(by omega)):=by
    rw[<-Array.getElem?_toList,key,YX,Y2 (by omega),YU (by omega),hl0,Yi (by omega)]
   unfold kp
   rw[Array.getD_eq_getD_getElem?,this];rfl
 ·intro i j hi hij hj
  rw[atm i hi (by omega),atm j (by omega) hj]
  by_cases e:i=j
  ·subst e;exact Int.le_refl _
  ·exact List.pairwise_iff_getElem.mp hg.2 _ _ _ _ (by omega)
 ·intro j j1 j2
  rw[atm j j1 j2]
  have hm:(res.toList[j-base]'(by omega))∈(a.extract base mid).toList++(a.extract mid r).toList:=(List.Perm.mem_iff hg.1).mp (YY _)
  rcases YE.mp hm with hm|hm
  ·obtain⟨t,ht,e⟩:=List.mem_iff_getElem.mp hm
   simp only[YM,Array.size_extract]at ht
   simp only[Array.getElem_toList,Array.getElem_extract]at e
   exact⟨base+t,by omega,by omega,by rw[kp_at (by omega),e,Array.getElem_toList]⟩
  ·obtain⟨t,ht,e⟩:=List.mem_iff_getElem.mp hm
   simp only[YM,Array.size_extract]at ht
   simp only[Array.getElem_toList,Array.getElem_extract]at e
   exact⟨mid+t,by omega,by omega,by rw[kp_at (by omega),e,Array.getElem_toList]⟩
end
end L2
namespace L2
open PySem PySem.Spec PyProof.Rows
end L2
namespace L2
open PySem PySem.Spec PyProof.Rows PySem.W
end L2
namespace L2
open PySem PySem.Spec PyProof.Rows PySem.W PySem.Calls
end L2
namespace L2
open PySem PySem.Spec PyProof.Rows PySem.W
theorem le1 {n:Nat}{us:List Value} (e:us.length=n+1):∃a t,us=a::t/\t.length=n:=by
 cases us with
 |nil=>cases e
 |cons a t=>exact⟨a,t,rfl,Nat.succ.inj e⟩
theorem le0 {us:List Value} (e:us.length=0):us=[]:=List.length_eq_zero_iff.mp e
section
variable {X:Cx}{tg:Expr}
noncomputable def iRngD (ta:TA):TI:=fun σ H R=>ta σ H λvs H1=>∃i j:Int,vs=[.int i,.int j,.int (-1)]/\(-(2 ^ 62)<=i/\i<2 ^ 62/\-(2 ^ 62)<=j/\j<2 ^ 62)/\R (Itrv (i+1-(i-j).toNat) (i-j).toNat) H1
theorem ZnO {a b c:Expr}{ta:TA}{p pos:Pos} (hg:Gl X "range") (hm:X.mg "range"=none) (ha:PA X [a,b,c] ta) (hs:starEach [a,b,c] X.env=(false,eval a X.env)::starEach [b,c] X.env:=by rfl) (hpl:(backTo pos (starEach [b,c] X.env)).any (·.1)=false:=by rfl) :
  PI X tg (.Call (.Name "range" p) [a,b,c] [] pos) (iRngD ta):=by
 intro pins s σ H R I h
 refine Call_ (ZaW I hg hm boot_range (PyProof.Rows.callWith_type1 (thn (ha pos pins s σ H _ I h) λus s1 z=>?_) hs hpl))
 obtain⟨vs,H1,I1,r1,i,j,e,⟨q1,q2,q3,q4⟩,q⟩:=z
 subst e
 cases r1 with
 |cons r rr =>
  cases rr with
  |cons r' rr =>
   cases rr with
   |cons r'' rr =>
    cases rr
    obtain⟨t,rfl⟩:=r
    obtain⟨t',rfl⟩:=r'
    obtain⟨t'',rfl⟩:=r''
    refine call_range_3 (by decide) ?_
    refine wpAny_pyIter_range (IsRange.new ..) (small_down q1 q2 q3 q4) ?_
    have I2:Inv X pins σ H1 {s1 with heap:=s1.heap.push {cls:=.type "range",data:=.fields #[.int i t,.int j t',.int (-1) t'']}}:=I1.kept (t':=s1.toks) λb o e=>Yg _ e
    generalize s1.heap.push {cls:=.type "range",data:=.fields #[.int i t,.int j t',.int (-1) t'']}=h2 at I2⊢
    refine⟨h2.objs.size,[h2.objs.size],_,_,H1,rfl,I2.kept (t':=s1.toks) λb o e=>Yg _ e,Zhh _ (i+1-(i-j).toNat) (i-j).toNat,?_,λb hb=>?_,q⟩
    ·have e1:(i+1-((i-j).toNat:Nat))+((i-j).toNat:Nat)-1+((0:Nat):Int)*(-1)=i:=by omega
     have e2:(((i-j).toNat:Nat):Int)-((0:Nat):Int)=Builtin.Range.rangeSize i j (-1):=by rw[rangeSize_downNat];omega
     show IsRangeIter _ _ ((i+1-((i-j).toNat:Nat))+((i-j).toNat:Nat)-1+((0:Nat):Int)*(-1)) ((((i-j).toNat:Nat):Int)-((0:Nat):Int)) (-1)
     rw[e1,e2]
     exact Ym _ rfl
    ·have e:b=h2.objs.size:=by simpa using hb
     subst e
     exact I2.Zh4 (Yd _) (I2.hok.fresh (Yd _))
end
section
variable {X:Cx}
noncomputable def iEnumQ (K:Frag) (ta:TA):TI:=fun σ H R=>ta σ H λvs H1=>∃a xs,vs=[.ref a]/\((SqL K H1 a xs/\R (Ite K a) H1)\/(SqT K H1 a xs/\R (IteT K a) H1))
theorem ZpA {K:Frag}{elts:List Expr} {x1}{tp:Pos}{e1:Expr}{ta:TA}{p pos:Pos} (hK:X.K=K) (hg:Gl X "enumerate") (hm:X.mg "enumerate"=none) (ha:PA X [e1] ta) (hs:starEach [e1] X.env=[(false,eval e1 X.env)]:=by rfl) :
  PI X (.Tuple elts x1 tp) (.Call (.Name "enumerate" p) [e1] [] pos) (iEnumQ K ta):=by
 subst hK
 intro pins s σ H R I h
 refine wpAny_Call_Name_kw (ZaW I hg hm ZdB ?_)
 refine PyProof.Rows.callWith_type1 (thn (ha pos pins s σ H _ I h) λus s1 z=>?_) hs rfl
 obtain⟨vs,H1,I1,r1,a,xs,rfl,qq⟩:=z
 obtain⟨u,rfl,ru⟩:=r1.one
 cases(show u=Value.ref a from ru)
 have sm:∀b,s1.heap.objs.size<=b->FpOk X pins H1 b:=λb hb=>I1.Zh4 hb (I1.hok.fresh hb)
 have n1:s1.heap.objs.size+1≠s1.heap.objs.size:=by show ¬ ((_:Nat)=_);omega
 rcases qq with⟨qa,q⟩|⟨qa,q⟩
 ·obtain⟨is1,rr1,p1,_⟩:=I1.list qa
  refine call_enumerate_list p1.isList λh' c1 c2 c3 c4=>?_
  have l1:a<s1.heap.objs.size:=by obtain⟨o,e,_⟩:=p1.isList;exact Yj e
  have T:=ZjM (P:=X.prog) (w:=X.w) (K:=X.K) (elts:=elts) (x1:=x1) (pos:=tp) n1 (Yk (YG l1)) (Yk l1)
  refine T.self _ 0 _ _ _ ⟨⟨_,c1⟩,c2⟩ ?_
  refine⟨_,[s1.heap.objs.size+1,s1.heap.objs.size],_,_,H1,rfl,I1.kept (t':=s1.toks) c4,T,⟨⟨_,c1⟩,c2⟩,λc hc=>?_,q⟩
  simp at hc
  rcases hc with rfl|rfl<;>exact sm _ (by omega)
 ·obtain⟨is1,rr1,p1,_⟩:=I1.tuple qa
  have l1:a<s1.heap.objs.size:=by obtain⟨o,e,_⟩:=p1;exact Yj e
  have T:=Zim (P:=X.prog) (w:=X.w) (K:=X.K) (elts:=elts) (x1:=x1) (pos:=tp) n1 (Yk (YG l1)) (Yk l1)
  have hsz:(s1.heap.push {cls:=.type "tuple_iterator",data:=.fields #[.ref a,.int 0 0]}).objs.size=s1.heap.objs.size+1:=Heap.size_push _ _
  have c1:IsEnum ((s1.heap.push {cls:=.type "tuple_iterator",data:=.fields #[.ref a,.int 0 0]}).push {cls:=.type "enumerate",data:=.fields #[.none,.bool false,.ref s1.heap.objs.size,rawInt 0,.none,.none]}) (s1.heap.objs.size+1) s1.heap.objs.size 0 .none:=by
   show Heap.get? _ _=_
   rw[<-hsz];exact Ym _ rfl
  have c2:((s1.heap.push {cls:=.type "tuple_iterator",data:=.fields #[.ref a,.int 0 0]}).push {cls:=.type "enumerate",data:=.fields #[.none,.bool false,.ref s1.heap.objs.size,rawInt 0,.none,.none]}).IsTupleIter s1.heap.objs.size a 0:=⟨_,Yg _ (Ym _ rfl),rfl,rfl⟩
  refine callType_newIn F.called_enumerate rfl (by first|rfl|decide) (F.newCall_enumerate_1 _) (λobj=>by first|rfl|decide) F.entry_enumerate_new (Zhg a is1.toArray) ⟨p1,⟨_,c1,rfl⟩,?_⟩
  refine T.self _ 0 _ _ _ ⟨⟨_,c1⟩,c2⟩ ?_
  refine⟨_,[s1.heap.objs.size+1,s1.heap.objs.size],_,_,H1,rfl,I1.kept (t':=s1.toks) (λb o e=>Yg _ (Yg _ e)),T,⟨⟨_,c1⟩,c2⟩,λc hc=>?_,q⟩
  simp at hc
  rcases hc with rfl|rfl<;>exact sm _ (by omega)
end
noncomputable def kwS (v:Value):List (Str×Value):=[(Str.ofString "start",v)]
theorem Ziu (a v:Value):checkTypeCall "enumerate" ⟨[a],kwS v⟩=pure ():=by kernel_rfl
theorem Zjg (a v:Value):checkBuiltinCall "enumerate.__new__" ⟨[.type "enumerate",a],kwS v⟩=pure ():=by kernel_rfl
theorem Ziv (obj a v:Value):argsOk "object.__init__" ⟨[obj,a],kwS v⟩:=by
 unfold argsOk;kernel_rfl
section
variable {prog:Program}{w:World}{A:Around}{E:Value->Shared->Prop}{s:Shared}
theorem Zmp (self a v:Value):Meets (Builtin.«object.__init__» ⟨[self,a],kwS v⟩) (λ_ R s=>s.TypeIs self "enumerate"/\R (.ok (.ret .none)) s):=by
 have hl:=F.called_enumerate.init.lookup
 have hm:=F.called_enumerate.made
 have hne:(some "enumerate.__new__" != some "object.__new__")=true:=by decide
 refine Meets.of_wp λprog w A R s hs=>?_
 obtain⟨hT,hq⟩:=hs
 repeat (any_goals (first|assumption|wp_step))
 exact⟨_,rfl,hq⟩
theorem Zlh (l:Addr) (items:Array Value) (t:Tok):MeetsIn prog w (Builtin.«enumerate.__new__» ⟨[.type "enumerate",.ref l],kwS (.int 1 t)⟩) λA R s=>s.heap.IsList l items/\R (.ok (.ret (.ref (s.heap.objs.size+1)))) {s with heap:=(s.heap.push {cls:=.type "list_iterator",data:=.fields #[.ref l,.int 0 0]}).push {cls:=.type "enumerate",data:=.fields #[.none,.bool false,.ref s.heap.objs.size,rawInt 1,.none,.none]}}:=by
 intro A R s ⟨h,hR⟩
 unfold Builtin.«enumerate.__new__»
 refine Ya (wpAny_of_eq (show Builtin.SmallTypes.newClass "enumerate" ⟨[.type "enumerate",.ref l],kwS (.int 1 t)⟩=pure (.type "enumerate",[.ref l])from by first|rfl|(unfold Builtin.SmallTypes.newClass;rfl)) ?_)
 show wpAny _ _ (_ >>= _) _ _ _
 have hsz:(s.heap.push {cls:=.type "list_iterator",data:=.fields #[.ref l,.int 0 0]}).objs.size=s.heap.objs.size+1:=Heap.size_push _ _
 refine Ya (thn (Zin (.type "enumerate")) λb s' e=>?_)
 subst e
 cases b with
 |true =>
  show wpAny _ _ (_ >>= _) _ _ _
  refine Ya (wpAny_of_eq (show _=pure (.ref l,some (.int 1 t))from rfl) ?_)
  dsimp only
  refine Ya (wpAny_of_eq (show Builtin.SmallTypes.indexObject "enumerate.__new__" (.int 1 t)=pure (.int 1 t)from by first|rfl|(unfold Builtin.SmallTypes.indexObject;rfl)) ?_)
  refine Ya (wpAny_of_eq (show asInt? (.int 1 t)=pure (some 1)from rfl) ?_)
  dsimp only
  refine wpAny_ite_split (λhab=>absurd hab (by decide)) λ_=>?_
  refine Ya (wpAny_pyIter_list h ?_)
  show wpAny _ _ (newObj (.type "enumerate") (.fields #[.none,.bool false,.ref s'.heap.objs.size,rawInt 1,.none,.none]) >>= _) _ _ _
  refine Ya (wpAny_newObj_type (Ye ?_))
  rw[hsz];exact hR
 |false =>
  show wpAny _ _ (_ >>= _) _ _ _
  refine Ya (wpAny_of_eq (show _=pure (.ref l,some (.int 1 t))from rfl) ?_)
  dsimp only
  refine Ya (wpAny_of_eq (show Builtin.SmallTypes.indexObject "enumerate.__new__" (.int 1 t)=pure (.int 1 t)from by first|rfl|(unfold Builtin.SmallTypes.indexObject;rfl)) ?_)
  refine Ya (wpAny_of_eq (show asInt? (.int 1 t)=pure (some 1)from rfl) ?_)
  dsimp only
  refine wpAny_ite_split (λhab=>absurd hab (by decide)) λ_=>?_
  refine Ya (wpAny_pyIter_list h ?_)
  show wpAny _ _ (newObj (.type "enumerate") (.fields #[.none,.bool false,.ref s'.heap.objs.size,rawInt 1,.none,.none]) >>= _) _ _ _
  refine Ya (wpAny_newObj_type (Ye ?_))
  rw[hsz];exact hR
noncomputable def EnS (s:Shared) (l:Addr):Shared:={s with heap:=(s.heap.push {cls:=.type "list_iterator",data:=.fields #[.ref l,.int 0 0]}).push {cls:=.type "enumerate",data:=.fields #[.none,.bool false,.ref s.heap.objs.size,rawInt 1,.none,.none]}}
theorem Zmq {l:Addr}{items:Array Value}{t:Tok}{Q:Value->Shared->Prop} (hl:s.heap.IsList l items)
  (h:Q (.ref (s.heap.objs.size+1)) (EnS s l)) :
  wpAny (model prog w) A (call (.type "enumerate") [.ref l] (kwS (.int 1 t))) Q E s:=by
 have ft:=F.called_enumerate
 obtain⟨c,tl,hmro⟩:=ft.mro
 have hmade:=ft.made
 have hsub:=ft.sub
 have hct:=Ziu (.ref l) (.int 1 t)
 have hcn:=Zjg (.ref l) (.int 1 t)
 have hsz:(s.heap.push {cls:=.type "list_iterator",data:=.fields #[.ref l,.int 0 0]}).objs.size=s.heap.objs.size+1:=Heap.size_push _ _
 refine wpAny_call (codeAny_of_tree ?_)
 show wpAny _ _ (callAny (.type "enumerate") _) _ _ _
 refine Ye ⟨Code.quiet_builtin _ (by decide +kernel),codeAny_builtin PySem.F.entry_type_call ?_⟩
 rw[Around.under_plain (weight_type_call_type "enumerate" [.ref l] (kwS (.int 1 t))) (units_type_call_type "enumerate" [.ref l] (kwS (.int 1 t)))]
 have h1:=ft.notType
 have h2:=ft.canCreate
 repeat (any_goals (first|assumption|wp_step))
 have hsn:s.heap.IsList l items/\(λ(r:Result) (s1:Shared)=>r=.ok (.ret (.ref (s.heap.objs.size+1)))/\s1=(EnS s l)) (.ok (.ret (.ref (s.heap.objs.size+1)))) (EnS s l):=⟨hl,rfl,rfl⟩
 refine codeAny_mono (R:=λr s1=>r=.ok (.ret (.ref (s.heap.objs.size+1)))/\s1=(EnS s l)) (codeAny_call_builtin ft.plain F.entry_enumerate_new (wpAny_of_eq hcn (Zlh (prog:=prog) (w:=w) l items t A.in1 (λr s1=>r=.ok (.ret (.ref (s.heap.objs.size+1)))/\s1=EnS s l) s hsn))) λr s1 hr=>?_
 obtain⟨rfl,rfl⟩:=hr
 have hT:Shared.TypeIs (EnS s l) (.ref (s.heap.objs.size+1)) "enumerate":=⟨_,by show Heap.get? _ _=_;rw[<-hsz];exact Ym _ rfl,rfl⟩
 have hli:=ft.init.lookup
 have hbi:=ft.init.bind (.ref (s.heap.objs.size+1))
 have hsi:Shared.TypeIs (EnS s l) (.ref (s.heap.objs.size+1)) "enumerate"/\(λ(r:Result) (s2:Shared)=>r=.ok (.ret .none)/\s2=(EnS s l)) (.ok (.ret .none)) (EnS s l):=⟨hT,rfl,rfl⟩
 repeat (any_goals (first|assumption|wp_step))
 refine codeAny_mono (R:=λr s2=>r=.ok (.ret .none)/\s2=(EnS s l)) (codeAny_call_builtin ft.init.plain PySem.F.entry_object_init (ft.init.check _ _ _ _ _ _ _ _ hT (Ziv _ _ _) (Zmp (.ref (s.heap.objs.size+1)) (.ref l) (.int 1 t) prog w A.in1 (λr s2=>r=.ok (.ret .none)/\s2=EnS s l) _ hsi))) λr s2 hr=>?_
 obtain⟨rfl,rfl⟩:=hr
 repeat (any_goals (first|assumption|wp_step))
end
section
variable {X:Cx}
theorem Zhi {prog:Program}{w:World}{A:Around}{it:Addr}{fp:List Addr}{n:Nat}{P:Nat->Value->Prop}{St:Nat->Heap->Prop} (D:Draws prog w A it fp n P St):Draws prog w A it fp (n+1) (λi v=>P (i-1) v) (λi h=>1<=i/\St (i-1) h) where
 live:=λi h st=>D.live _ _ st.2
 frame:=λi h h' st k=>⟨st.1,D.frame _ _ _ st.2 k⟩
 item:=λi s Q E hi st h=>D.item (i-1) s Q E (by omega) st.2 λv h' tk hp hs hb=>h v h' tk hp ⟨by omega,by rw[show i+1-1=i-1+1 by omega];exact hs⟩ hb
 done:=λs Q E st h=>D.done s Q E (by simpa using st.2) h
theorem Ziw {M:Model}{A:Around}{E:Value->Shared->Prop}{s:Shared}{env:Env}{pos:Pos}{T:String}{e:Expr}{rest:List Expr}{kws:List Keyword}{Q:Value->Shared->Prop}
  (h:wpAny M A (spliced (backTo pos (starEach (e::rest) env))) (λvs s1=>wpAny M A (evalAll ((backToKw pos (keywordEach kws env)).map (·.2))) (λkvs s2=>wpAny M A (call (.type T) vs (((backToKw pos (keywordEach kws env)).filterMap (·.1)).zip kvs)) Q E s2) E s1) E s)
  (he:backTo pos (starEach (e::rest) env)=(false,eval e env)::backTo pos (starEach rest env):=by rfl)
  (hpl:(backTo pos (starEach (e::rest) env)).any (·.1)=false:=by rfl) (hall:(backToKw pos (keywordEach kws env)).all (·.1.isSome)=true:=by rfl)
  (hkw:(backToKw pos (keywordEach kws env)).any (·.1.isNone)=false:=by rfl):wpAny M A (callWith pos (.type T) [] (backTo pos (starEach (e::rest) env)) (backToKw pos (keywordEach kws env))) Q E s:=by
 unfold callWith
 have h1:wpAny M A (evalArgs (.type T) true (backTo pos (starEach (e::rest) env)) (backToKw pos (keywordEach kws env))) (λa s1=>wpAny M A (call (.type T) ([]++a.pos) a.kw) Q E s1) E s:=by
  rw[he]at h⊢
  exact evalArgs_kwB hall h
 refine Ya (wpAny_holding (YB h1 (λa s1 h2=>Ya (wpAny_standAt ?_)) λ_ _ x=>x))
 simp only[hpl,hkw,Bool.or_false]
 refine Ya (Ye ?_)
 exact Ya (YB h2 (λr s2 hr=>Ya (wpAny_holding (wpAny_point (Ye hr)))) λ_ _ x=>x)
noncomputable def IteS (K : Frag) (a : Addr) : It :=
  ⟨fun i H => ∃ xs x, SqL K H a xs ∧ xs[i]? = some x,
   fun i H v H' => ∃ p x, H p = none ∧ v = .ref p ∧ H' = upd H p (.tup [.int ((i : Int) + 1), x]) ∧ ∀ xs, SqL K H a xs → xs[i]? = some x,
   fun i H => ∃ xs, SqL K H a xs ∧ xs.length = i⟩
theorem Zmr {P:Program}{w:World}{K:Frag}{elts:List Expr} {x1}{pos:Pos}{a e it:Addr} (h1:e≠it) (h2:a≠e) (h3:a≠it) :
  Turn P w K (.Tuple elts x1 pos) (IteS K a) [e,it] e (λi h=>(∃old,IsEnum h e it ((i:Int)+1) old)/\h.IsListIter it a i) where
 mem:=by simp
 obj:=λi h st c hc=>by
  obtain⟨⟨old,q1⟩,⟨o4,q4,_,d4⟩⟩:=st
  simp at hc
  rcases hc with rfl|rfl
  ·exact⟨_,q1,λv z=>by cases z⟩
  ·exact⟨_,q4,λv z=>by rw[d4]at z;cases z⟩
 keep:=λi h h' st k=>by
  obtain⟨⟨old,q1⟩,q4⟩:=st
  exact⟨⟨old,k e (by simp) _ q1⟩,q4.at λo z=>k it (by simp) o z⟩
 item:=by
  intro X hP hw hK hc i pins s σ H E I hf st hg
  subst hP hw hK
  obtain⟨xs,x,qa,hx⟩:=hg
  obtain⟨is1,r1,p1,hz1⟩:=I.list qa
  obtain⟨u,hu,ru⟩:=r1.get hx
  have W:=WalksT.enumerateD (prog:=X.prog) (w:=X.w) (A:=X.A) (Zhi (Draws.list (A:=X.A.in1) (I.ok.hd hc) it a h3 is1.toArray)) e h1 (by simp;exact⟨h1,h2.symm⟩) (by simp)
  have hi:i<is1.toArray.size:=by
   have:=(Yp.mp hu).1
   simpa using this
  have st1:(∃old,IsEnum s.heap e it (((i+1:Nat)):Int) old):=by obtain⟨old,q⟩:=st.1;exact⟨old,by rw[show((i+1:Nat):Int)=(i:Int)+1 by omega];exact q⟩
  refine W.item (i+1) s _ E (by omega) ⟨st1,by omega,by simpa using st.2,p1.isList⟩ λT vals h' tk Pt hT hTup Mid keep=>⟨_,rfl,W.go elts x1 pos (i+1) T _ _ E Mid λh2' St2 keep2=>?_⟩
  obtain⟨t,y,hy,rfl⟩:=Pt
  have hyu:y=u:=by
   have:is1[i]?=some y:=by simpa using hy
   rw[hu]at this;exact(Yy this).symm
  subst hyu
  have nT:=W.apart (i+1) T h' Mid
  have hfr:H T=none:=I.hok.fresh hT
  have kk:∀b o,b∉[e,it]->s.heap.get? b=some o->h2'.get? b=some o:=λb o hb q=>keep2 b o hb (keep b o hb q)
  have nTe:∀c∈[e,it],c≠T:=λc hc z=>nT (z▸hc)
  have ei:((i:Int)+1)=(((i+1:Nat)):Int):=by omega
  refine⟨.ref T,_,Inv.Zkf (s:=s) (t':=tk) (o:=.tup [.int ((i:Int)+1),x]) I kk hf hT ?_,rfl,⟨T,x,hfr,rfl,rfl,λxs' q'=>?_⟩,⟨?_,by have:=St2.2.2.1;simpa using this⟩,λc hc=>?_⟩
  ·obtain⟨oT,q1,q2,n,q3⟩:=hTup
   exact⟨by show 2<=sizeLine;decide,[.int ((i:Int)+1) t,y],.cons ⟨t,rfl⟩ (.cons ru .nil),⟨oT,keep2 T oT nT q1,q2,n,by rw[ei];exact q3⟩⟩
  ·rw[I.Zde q' qa];exact hx
  ·obtain⟨old,q⟩:=St2.1
   refine⟨old,?_⟩
   have e2:(((i+1:Nat):Int)+1)=((i+1+1:Nat):Int):=by omega
   rw[e2];exact q
  ·rw[Zh (nTe c hc)];exact(hf c hc).1
 done:=by
  intro X hP hw hK hc i pins s σ H E I hf st hg
  subst hP hw hK
  obtain⟨xs,qa,hx⟩:=hg
  obtain⟨is1,r1,p1,_⟩:=I.list qa
  have W:=WalksT.enumerateD (prog:=X.prog) (w:=X.w) (A:=X.A) (Zhi (Draws.list (A:=X.A.in1) (I.ok.hd hc) it a h3 is1.toArray)) e h1 (by simp;exact⟨h1,h2.symm⟩) (by simp)
  have hi:i=is1.toArray.size:=by
   have:=r1.length
   simp;omega
  refine W.done s _ E ?_ λh' tk keep=>⟨rfl,I.Zj9 (t':=tk) (fp:=[e,it]) (λc o hc q=>keep c o hc q) hf⟩
  rw[<-hi]
  obtain⟨old,q⟩:=st.1
  exact⟨⟨old,by rw[show((i+1:Nat):Int)=(i:Int)+1 by omega];exact q⟩,by omega,by simpa using st.2,p1.isList⟩
 self:=λA i s Q E st h=>by
  obtain⟨⟨old,q⟩,_⟩:=st
  exact wpAny_pyIter_enum q h
noncomputable def iEnumS (K:Frag) (ta td:TA):TI:=fun σ H R=>ta σ H λvs H1=>td σ H1 λws H2=>∃a xs,vs=[.ref a]/\ws=[.int 1]/\SqL K H2 a xs/\R (IteS K a) H2
theorem ZpB {K:Frag}{elts:List Expr} {x1}{tp:Pos}{e1 e2:Expr}{ta td:TA}{p pos kp:Pos} (hK:X.K=K) (hg:Gl X "enumerate") (hm:X.mg "enumerate"=none) (ha:PA X [e1] ta) (hd:PK X [⟨some (Str.ofString "start"),e2,kp⟩] td)
  (hks:(backToKw pos (keywordEach [⟨some (Str.ofString "start"),e2,kp⟩] X.env)).filterMap (·.1)=[Str.ofString "start"]:=by rfl) (he:backTo pos (starEach [e1] X.env)=(false,eval e1 X.env)::backTo pos (starEach [] X.env):=by rfl)
  (hpl:(backTo pos (starEach [e1] X.env)).any (·.1)=false:=by rfl) (hall:(backToKw pos (keywordEach [⟨some (Str.ofString "start"),e2,kp⟩] X.env)).all (·.1.isSome)=true:=by rfl)
  (hnn:(backToKw pos (keywordEach [⟨some (Str.ofString "start"),e2,kp⟩] X.env)).any (·.1.isNone)=false:=by rfl) :
  PI X (.Tuple elts x1 tp) (.Call (.Name "enumerate" p) [e1] [⟨some (Str.ofString "start"),e2,kp⟩] pos) (iEnumS K ta td):=by
 subst hK
 intro pins s σ H R I h
 refine wpAny_Call_Name_kw (ZaW I hg hm ZdB ?_)
 refine Ziw (thn (ha pos pins s σ H _ I h) λus s1 z=>?_) he hpl hall hnn
 obtain⟨vs,H1,I1,r1,q1⟩:=z
 refine thn (hd pos pins s1 σ H1 _ I1 q1) λws s2 z=>?_
 obtain⟨zs,H2,I2,r2,a,xs,rfl,rfl,qa,q⟩:=z
 obtain⟨u,rfl,ru⟩:=r1.one
 cases(show u=Value.ref a from ru)
 obtain⟨v,rfl,t,rfl⟩:=r2.one
 rw[hks]
 obtain⟨is1,rr1,p1,_⟩:=I2.list qa
 have l1:a<s2.heap.objs.size:=by obtain⟨o,e,_⟩:=p1.isList;exact Yj e
 have sm:∀b,s2.heap.objs.size<=b->FpOk X pins H2 b:=λb hb=>I2.Zh4 hb (I2.hok.fresh hb)
 have n1:s2.heap.objs.size+1≠s2.heap.objs.size:=by show ¬ ((_:Nat)=_);omega
 have T:=Zmr (P:=X.prog) (w:=X.w) (K:=X.K) (elts:=elts) (x1:=x1) (pos:=tp) n1 (Yk (YG l1)) (Yk l1)
 have hsz:(s2.heap.push {cls:=.type "list_iterator",data:=.fields #[.ref a,.int 0 0]}).objs.size=s2.heap.objs.size+1:=Heap.size_push _ _
 have c1:IsEnum ((s2.heap.push {cls:=.type "list_iterator",data:=.fields #[.ref a,.int 0 0]}).push {cls:=.type "enumerate",data:=.fields #[.none,.bool false,.ref s2.heap.objs.size,rawInt 1,.none,.none]}) (s2.heap.objs.size+1) s2.heap.objs.size (((0:Nat):Int)+1) .none:=by
  show Heap.get? _ _=_
  rw[<-hsz];exact Ym _ rfl
 have c2:((s2.heap.push {cls:=.type "list_iterator",data:=.fields #[.ref a,.int 0 0]}).push {cls:=.type "enumerate",data:=.fields #[.none,.bool false,.ref s2.heap.objs.size,rawInt 1,.none,.none]}).IsListIter s2.heap.objs.size a 0:=⟨_,Yg _ (Ym _ rfl),rfl,rfl⟩
 refine Zmq (t:=t) p1.isList ?_
 refine T.self _ 0 _ _ _ ⟨⟨_,c1⟩,c2⟩ ?_
 refine⟨_,[s2.heap.objs.size+1,s2.heap.objs.size],_,_,H2,rfl,I2.kept (t':=s2.toks) (λb o e=>Yg _ (Yg _ e)),T,⟨⟨_,c1⟩,c2⟩,λc hc=>?_,q⟩
 simp at hc
 rcases hc with rfl|rfl<;>exact sm _ (by omega)
end
noncomputable def CDivB (i j:Int):Prop:=0<j/\j.natAbs<2 ^ 1000
theorem ZpC {X:Cx}:OpR X (binaryOp .FloorDiv) (rI CDivB λi j=>.int (i / j)):=opI λi j _ _ _ _ _ hc q=>by
 have h1:(0:Int)<j:=hc.1
 have h3:=hc.2
 refine floordiv_int (by omega) (by rw[Int.fdiv_eq_ediv_of_nonneg i (by omega)];exact q) (.inl (PyProof.noPylong_of_log2 ?_))
 have:j.natAbs.log2<1000:=(Nat.log2_lt (by omega)).mpr h3
 omega
noncomputable def prodF (g:Nat->Nat) (a:Nat):Nat->Nat
 |0=>1
 |c+1=>prodF g a c*g (a+c)
noncomputable def facN:Nat->Nat
 |0=>1
 |n+1=>(n+1)*facN n
theorem ZjQ {g:Nat->Nat} (a:Nat):∀c,(∀i,i<c->0<g (a+i))->0<prodF g a c
 |0,_=>Nat.one_pos
 |c+1,h=>Nat.mul_pos (ZjQ a c λi hi=>h i (by omega)) (h c (by omega))
theorem Zli {g:Nat->Nat} (a b:Nat):∀c,(∀i,i<c->g (a+i)<=b)->prodF g a c<=b ^ c
 |0,_=>by simp[prodF]
 |c+1,h=>by
  rw[Nat.pow_succ]
  exact Nat.mul_le_mul (Zli a b c λi hi=>h i (by omega)) (h c (by omega))
noncomputable def Zix (f:Nat->Int) (p:Nat):Nat:=((p:Int)-ZaX f p-1).toNat
noncomputable def Ziy (f:Nat->Int) (n p:Nat):Nat:=(Za1 f n p-p-1).toNat
noncomputable def szN (f:Nat->Int) (n p:Nat):Nat:=Zix f p+Ziy f n p+1
section
variable {ns T:List Int}
theorem Zaz (hT:Zl ns T) {p:Nat} (hp:p<ns.length):(Zix (nth ns) p:Int)=p-ZaX (nth ns) p-1/\(Ziy (nth ns) ns.length p:Int)=Za1 (nth ns) ns.length p-p-1/\Zix (nth ns) p<=p/\p+Ziy (nth ns) ns.length p<ns.length:=by
 unfold Zix Ziy
 obtain⟨h1,h2⟩:=ZaP (hT.2 p hp)
 rcases h1 with h1|⟨q,h1⟩<;>rcases h2 with h2|⟨r,h2⟩
 ·rw[ZcH h1,Zb5 h2];omega
 ·rw[ZcH h1,Zaj h2];have:=h2.1;have:=h2.2.1;omega
 ·rw[Zai h1,Zb5 h2];have:=h1.1;omega
 ·rw[Zai h1,Zaj h2];have:=h1.1;have:=h2.1;have:=h2.2.1;omega
theorem Zgn (hT:Zl ns T) {q e:Nat} (hq:q<ns.length) (h:nth T q=e) (hl:q<e):e<ns.length/\ZaX (nth ns) q=ZaX (nth ns) e/\Za1 (nth ns) ns.length q=e/\(∀s,q<s->s<e->nth ns q<=nth ns s)/\∀s:Nat,ZaX (nth ns) e<s->s<q->nth ns q<nth ns s:=by
 have hE:=hT.2 q hq
 rw[show T.getD q 0=e from h]at hE
 rcases hE with⟨_,_,z⟩|⟨x,h1,_,z⟩|⟨r,h1,h2,z⟩|⟨x,r,h1,h2,z⟩
 ·omega
 ·have:=h1.1;omega
 ·obtain rfl:e=r:=by omega
  have hN:ZbW (nth ns) e:=λr' r1=>by
   have:=h2.2.2.1
   by_cases z1:r'<q
   ·have:=h1 r' z1;omega
   ·by_cases z2:r'=q
    ·subst z2;omega
    ·have:=h2.2.2.2 r' (by omega) r1;omega
  exact⟨h2.2.1,by rw[ZcH h1,ZcH hN],Zaj h2,h2.2.2.2,λs _ s2=>h1 s s2⟩
 ·by_cases c:nth ns x<=nth ns r
  ·rw[Yc c]at z
   obtain rfl:e=r:=by omega
   have hP:Z5 (nth ns) e x:=⟨by have:=h1.1;omega,c,λr' r1 r2=>by
    have:=h2.2.2.1
    by_cases z1:r'<q
    ·have:=h1.2.2 r' r1 z1;omega
    ·by_cases z2:r'=q
     ·subst z2;omega
     ·have:=h2.2.2.2 r' (by omega) r2;omega⟩
   refine⟨h2.2.1,by rw[Zai h1,Zai hP],Zaj h2,h2.2.2.2,λs s1 s2=>h1.2.2 s ?_ s2⟩
   rw[Zai hP]at s1;omega
  ·rw[Yb c]at z
   have:=h1.1;omega
theorem Zdl (hT:Zl ns T) {q e:Nat} (hq:q<ns.length) (h:nth T q=e) (hl:e<q):ZaX (nth ns) q=e/\Za1 (nth ns) ns.length q=Za1 (nth ns) ns.length e/\(∀s,e<s->s<q->nth ns q<nth ns s)/\∀s:Nat,q<s->s<Za1 (nth ns) ns.length e->nth ns q<=nth ns s:=by
 have hE:=hT.2 q hq
 rw[show T.getD q 0=e from h]at hE
 rcases hE with⟨_,_,z⟩|⟨x,h1,h2,z⟩|⟨r,h1,h2,z⟩|⟨x,r,h1,h2,z⟩
 ·omega
 ·obtain rfl:e=x:=by omega
  have hN:Zbl (nth ns) ns.length e:=λr r1 r2=>by
   have:=h1.2.1
   by_cases z1:r<q
   ·have:=h1.2.2 r r1 z1;omega
   ·by_cases z2:r=q
    ·subst z2;omega
    ·have:=h2 r (by omega) r2;omega
  exact⟨Zai h1,by rw[Zb5 h2,Zb5 hN],h1.2.2,λs s1 s2=>h2 s s1 (by rw[Zb5 hN]at s2;omega)⟩
 ·have:=h2.1;omega
 ·by_cases c:nth ns x<=nth ns r
  ·rw[Yc c]at z
   have:=h2.1;omega
  ·rw[Yb c]at z
   obtain rfl:e=x:=by omega
   have hP:Z3 (nth ns) ns.length e r:=⟨by have:=h2.1;omega,h2.2.1,by omega,λs s1 s2=>by
    have:=h1.2.1
    by_cases z1:s<q
    ·have:=h1.2.2 s s1 z1;omega
    ·by_cases z2:s=q
     ·subst z2;omega
     ·have:=h2.2.2.2 s (by omega) s2;omega⟩
   exact⟨Zai h1,by rw[Zaj h2,Zaj hP],h1.2.2,λs s1 s2=>h2.2.2.2 s s1 (by rw[Zaj hP]at s2;omega)⟩
theorem ZpD (hT:Zl ns T) {q p e:Nat} (hq:q<ns.length) (hp:p<ns.length) (h:nth T q=e) (k:nth T p=e) (h1:q<e) (k1:p<e):q=p:=by
 obtain⟨he,a1,a2,a3,a4⟩:=Zgn hT hq h h1
 obtain⟨_,b1,b2,b3,b4⟩:=Zgn hT hp k k1
 have c1:=(Zaz hT hq)
 have c2:=(Zaz hT hp)
 rcases Nat.lt_trichotomy q p with z|z|z
 ·have x:=a3 p z k1
  have y:=b4 q (by rw[<-a1];omega) z
  omega
 ·exact z
 ·have x:=b3 q z h1
  have y:=a4 p (by rw[<-b1];omega) z
  omega
theorem ZnP (hT:Zl ns T) {q p e:Nat} (hq:q<ns.length) (hp:p<ns.length) (h:nth T q=e) (k:nth T p=e) (h1:e<q) (k1:e<p):q=p:=by
 obtain⟨a1,a2,a3,a4⟩:=Zdl hT hq h h1
 obtain⟨b1,b2,b3,b4⟩:=Zdl hT hp k k1
 have c1:=(Zaz hT hq)
 have c2:=(Zaz hT hp)
 rcases Nat.lt_trichotomy q p with z|z|z
 ·have x:=a4 p z (by rw[<-b2];omega)
  have y:=b3 q h1 z
  omega
 ·exact z
 ·have x:=b4 q z (by rw[<-a2];omega)
  have y:=a3 p k1 z
  omega
theorem ZpE (hT:Zl ns T) {p:Nat} (hp:p<ns.length) (h:0<Zix (nth ns) p):∃q,q<p/\nth T q=p:=by
 obtain⟨c1,_,c3,_⟩:=Zaz hT hp
 obtain⟨h1,_⟩:=ZaP (hT.2 p hp)
 generalize hs:Zix (nth ns) p=s at *
 have hL:=ZmS (nth ns) (p-s) (s-1)
 generalize Znp (nth ns) (p-s) (s-1)=q at hL
 obtain⟨l1,l2,l3,l4⟩:=hL
 have hqp:q<p:=by omega
 have big:∀r,p-s<=r->r<p->nth ns p<nth ns r:=λr r1 r2=>by
  rcases h1 with h1|⟨x,h1⟩
  ·exact h1 r r2
  ·rw[Zai h1]at c1;exact h1.2.2 r (by omega) r2
 have hN:Z3 (nth ns) ns.length q p:=⟨hqp,hp,big q l1 hqp,λr r1 r2=>l4 r r1 (by omega)⟩
 refine⟨q,hqp,?_⟩
 refine ZI.unique (hT.2 q (by omega)) ?_
 rcases h1 with h1|⟨x,h1⟩
 ·rw[ZcH h1]at c1
  exact .inr (.inr (.inl ⟨p,λr r1=>l3 r (by omega) r1,hN,rfl⟩))
 ·have hx:=c1
  rw[Zai h1]at hx
  refine .inr (.inr (.inr ⟨x,p,⟨by omega,?_,λr r1 r2=>l3 r (by omega) r2⟩,hN,by rw[Yc h1.2.1]⟩))
  have:=h1.2.1;have:=big q l1 hqp;omega
theorem ZnQ (hT:Zl ns T) {p:Nat} (hp:p<ns.length) (h:0<Ziy (nth ns) ns.length p):∃q,p<q/\q<ns.length/\nth T q=p:=by
 obtain⟨_,c1,_,c3⟩:=Zaz hT hp
 obtain⟨_,h1⟩:=ZaP (hT.2 p hp)
 generalize hs:Ziy (nth ns) ns.length p=s at *
 have hL:=ZmS (nth ns) (p+1) (s-1)
 generalize Znp (nth ns) (p+1) (s-1)=q at hL
 obtain⟨l1,l2,l3,l4⟩:=hL
 have hqp:p<q:=by omega
 have big:∀r,p<r->r<=p+s->nth ns p<=nth ns r:=λr r1 r2=>by
  rcases h1 with h1|⟨x,h1⟩
  ·exact h1 r r1 (by omega)
  ·rw[Zaj h1]at c1;exact h1.2.2.2 r r1 (by omega)
 have hN:Z5 (nth ns) q p:=⟨hqp,big q hqp (by omega),λr r1 r2=>l3 r (by omega) r2⟩
 refine⟨q,hqp,by omega,?_⟩
 refine ZI.unique (hT.2 q (by omega)) ?_
 rcases h1 with h1|⟨x,h1⟩
 ·rw[Zb5 h1]at c1
  exact .inr (.inl ⟨p,hN,λr r1 r2=>l4 r r1 (by omega),rfl⟩)
 ·have hx:=c1
  rw[Zaj h1]at hx
  have g:=h1.2.2.1
  refine .inr (.inr (.inr ⟨p,x,hN,⟨by omega,h1.2.1,?_,λr r1 r2=>l4 r r1 (by omega)⟩,by rw[Yb (by omega)]⟩))
  have:=big q hqp (by omega);omega
end
theorem ZrE (f:Nat->Int) (n p:Nat):0<szN f n p:=by unfold szN;omega
theorem Zlj {ns T:List Int} (hT:Zl ns T) (h40:ns.length<=40):0<prodF (szN (nth ns) ns.length) 0 ns.length/\prodF (szN (nth ns) ns.length) 0 ns.length<2 ^ 1000:=by
 refine⟨ZjQ 0 _ λi _=>ZrE _ _ _,?_⟩
 have h1:=Zli (g:=szN (nth ns) ns.length) 0 40 ns.length λi hi=>by
  have cp:=Zaz hT (p:=0+i) (by omega)
  unfold szN;omega
 have h2:40 ^ ns.length<=40 ^ 40:=Nat.pow_le_pow_right (by decide) h40
 have h3:40 ^ 40<2 ^ 1000:=by decide +kernel
 omega
theorem loopQ {K:Frag}{r:Addr}{H H1:Hp}{xs:List V}{g:TG}{tb:TS}{D:Ends}{σ:St} (hr:SqL K H r xs\/SqT K H r xs) (s1:Zg H H1)
  (key:∀J:It,(∀i Hx,Zg H Hx->i<xs.length->J.go i Hx)->(∀Hx,Zg H Hx->J.stop xs.length Hx)->(∀i Hx x Hx',Zg H Hx->J.yld i Hx x Hx'->∃q y,Hx q=none/\x=.ref q/\Hx'=upd Hx q (.tup [.int i,y])/\xs[i]?=some y)->Zf9 J g tb D σ H1) :
  SqL K H1 r xs/\Zf9 (Ite K r) g tb D σ H1\/SqT K H1 r xs/\Zf9 (IteT K r) g tb D σ H1:=by
 rcases hr with hr|hr
 ·refine .inl ⟨s1.seq hr,key _ (λi Hx s hi=>⟨_,_,s.seq hr,Yi hi⟩) (λHx s=>⟨_,s.seq hr,rfl⟩) λi Hx x Hx' s ⟨q,y,h1,h2,h3,h4⟩=>⟨q,y,h1,h2,h3,h4 _ (s.seq hr)⟩⟩
 ·refine .inr ⟨s1.Zav hr,key _ (λi Hx s hi=>⟨_,_,s.Zav hr,Yi hi⟩) (λHx s=>⟨_,s.Zav hr,rfl⟩) λi Hx x Hx' s ⟨q,y,h1,h2,h3,h4⟩=>⟨q,y,h1,h2,h3,h4 _ (s.Zav hr)⟩⟩
end L2
namespace L2
open PySem PySem.Spec PyProof.Rows PySem.W PyProof
theorem Zjh (l:Addr) (items:Array Value) (n:Nat) (dd:Option Addr) (sl:Array (Option Value)) (x:Value) (e:Value->Bool) (j:Nat) (hj:j<items.size)
  (hit:e items[j]=true) (hno:∀m (hm:m<items.size),m<j->e items[m]=false) :
  Meets (Builtin.«tuple.index» ⟨[.ref l,x],[]⟩)
   (λA R s=>s.heap.get? l=some {cls:=.type "tuple",dict:=dd,data:=.seq items n,slots:=sl}/\(∀y,y∈items->SeqAt.EqAt A.in1 s y x (e y))/\R (.ok (.ret (.int j s.toks))) {s with toks:=s.toks+1}) :=
 .of_wp λprog w A R s h=>by
  obtain⟨hp,g,d,tk,os⟩:=s;obtain⟨hl,he,h⟩:=h
  unfold Builtin.«tuple.index»
  simp only[Std.Legacy.Range.forIn_eq_forIn_range',Std.Legacy.Range.size,Nat.sub_zero,Nat.add_sub_cancel,Nat.div_one]
  wp_walk using wpAny_loadPart' hl,wpAny_forIn_list _ (λrest b s'=>b.1=none/\s'=⟨hp,g,d,tk,os⟩/\∃i,rest=List.range' i (items.size-i)/\i<=j) _
  case turn =>
   rintro y rest b s' ⟨hb,rfl,i,hr,hi⟩
   have hlt:i<items.size:=by omega
   obtain⟨rfl,hrest⟩:y=i/\rest=List.range' (i+1) (items.size-(i+1)):=by
    have e:items.size-i=(items.size-(i+1))+1:=by omega
    rw[e,List.range'_succ]at hr
    injection hr with h1 h2
    exact⟨h1,h2⟩
   rw[Array.getElem?_eq_getElem hlt]
   refine Ya (he items[y] (Array.getElem_mem hlt) prog w _ _ ?_)
   by_cases c:y=j
   ·subst c
    rw[hit]
    wp_walk
    exact⟨_,rfl,h⟩
   ·rw[hno y hlt (by omega)]
    wp_walk
    exact⟨rfl,rfl,y+1,hrest,by omega⟩
  case fin =>
   rintro⟨b1,b2⟩ s' ⟨hb,rfl,i,hr,hi⟩
   have e:items.size-i=(items.size-(i+1))+1:=by omega
   rw[e,List.range'_succ]at hr
   cases hr
  case h =>
   exact⟨rfl,rfl,0,by simp,Yn _⟩
section
variable {X:Cx}
noncomputable def rIndexT (K:Frag):V->List V->Hp->VK->Prop:=λx vs H Q=>∃(l:Addr) (ns:List Int) (k:Int),x=.ref l/\vs=[.int k]/\SqT K H l (ns.map V.int)/\k∈ns/\Q (.int (ns.idxOf k:Nat)) H
theorem ZjR {K:Frag} (hK:X.K=K):MtM X "tuple.index" (rIndexT K):=by
 subst hK
 intro pins s σ H x vs v us Q I rx rv h
 obtain⟨l,ns,k,rfl,rfl,hH,hk,q⟩:=h
 cases rx
 obtain⟨u,rfl,ru⟩:=rv.one
 obtain⟨t,rfl⟩:=ru
 obtain⟨its,r,pl⟩:=I.tuple hH
 have hi:IntsAre its ns:=intsAre_of r
 have hlen:=r.length
 rw[Yh]at hlen
 obtain⟨⟨cls,dd,data,sl⟩,ho,hc,n,hd⟩:=pl.1
 simp only at hc hd
 subst hc hd
 have hj:ns.idxOf k<ns.length:=List.idxOf_lt_length_iff.mpr hk
 refine call_meets F.slot_tuple_index ⟨_,ho,rfl⟩ F.entry_tuple_index (F.args_tuple_index_2 _ _)
  (Zjh l its.toArray n dd sl (.int k t) (isInt k) (ns.idxOf k) (by rw[Yo];omega) ?_ ?_) ⟨ho,λy hy=>(eq_isInt k t hi y (by simpa using hy)).at _ _,⟨.int _,H,I.tok _,⟨_,rfl⟩,q⟩⟩
 ·show isInt k its[ns.idxOf k]=true
  rw[isInt_at k hi _ (by omega) hj]
  simpa using List.getElem_idxOf hj
 ·intro j hjs hlt
  show isInt k its[j]=false
  rw[isInt_at k hi j (by simpa using hjs) (by omega)]
  exact ne_of_lt_idxOf hlt _
end
noncomputable def Zeo (H:Hp) (t:Addr) (ys:List V):Prop:=∃ob:Obj,ob.dict=none/\H t=some (.frz ob (.tup ys))
theorem Zeo.same {H H':Hp}{t:Addr}{ys:List V} (h:Zeo H t ys) (s:Zg H H'):Zeo H' t ys:=let ⟨ob,d,e⟩:=h;⟨ob,d,s _ _ e⟩
theorem Zeo.sq {K:Frag}{H:Hp}{t:Addr}{ys:List V} (h:Zeo H t ys):SqT K H t ys:=let ⟨ob,_,e⟩:=h;.inl (.inr ⟨ob,e⟩)
section
variable {X:Cx}
noncomputable def rTofF (K:Frag):List V->Hp->VK->Prop:=λxs H Q=>∃p ys,xs=[.ref p]/\SqL K H p ys/\∀l H',H l=none->Zg H H'->Zeo H' l ys->Q (.ref l) H'
theorem ZjS {K:Frag} (hK:X.K=K):ZbL X (.type "tuple") (rTofF K):=by
 subst hK
 intro pins s σ H xs us Q I r h
 obtain⟨p,ys,rfl,hq,q⟩:=h
 obtain⟨u,rfl,rx⟩:=vals1 r
 cases rx
 obtain⟨its,r',pl,hz⟩:=I.list hq
 have hlen:=r'.length
 refine call_tuple_list pl.isList (λh' kp=>?_) (by simp only[Yo]<;>omega)
 have I1:Inv X pins σ H {s with heap:=h'}:=I.kept (t':=s.toks) kp
 have hn:=I1.hok.fresh (Yd h'.objs.size)
 have I2:Inv X pins σ (upd H h'.objs.size (.frz {cls:=.type "tuple",data:=.seq its.toArray} (.tup ys))) {s with heap:=h'.push {cls:=.type "tuple",data:=.seq its.toArray}} :=
  I1.laid (t':=s.toks) (λb o e=>Yg _ e) (Yd _) (show ZS X.prog X.w _ _ _ (.frz _ (.tup ys))from⟨Ym _ rfl,hz,its,r',IsTup.new _ _⟩)
 exact⟨.ref h'.objs.size,_,I2,rfl,q _ _ hn ((Zg.refl H).upd hn) ⟨_,rfl,Zc⟩⟩
noncomputable def tBMH (r:V->List V->Hp->VK->Prop) (to:TE) (t:TA):TE:=fun σ H Q=>to σ H λx H1=>(∃p xs,x=.ref p/\Zeo H1 p xs)/\t σ H1 λxs H2=>r x xs H2 Q
variable {o e:Expr}{es:List Expr}{to:TE}{t:TA}{name:Str}{apos cpos:Pos}{id:String}{r:V->List V->Hp->VK->Prop}
theorem ZpF (slot:Slot "tuple" name id) (hty:typeOf (.builtin id)=pure (.type "method_descriptor")) (hm:MtM X id r) (ho:PE X o to) (ha:PA X (e::es) t)
  (hbase:attributeBase o name X.env (eval o X.env)=eval o X.env:=by rfl)
  (hfew:((backTo cpos (starEach (e::es) X.env)).all (λx=>!x.1)&&(backToKw cpos (keywordEach [] X.env)).all (λx=>x.1.isSome)
   && decide ((e::es).length+([]:List Keyword).length+(if ([]:List Keyword).isEmpty then 0 else 1)<30))=true:=by rfl)
  (hline:(apos.endLine==cpos.line)=true:=by rfl) (hs:starEach (e::es) X.env=(false,eval e X.env)::starEach es X.env:=by rfl) (hplain:(backTo cpos (starEach es X.env)).any (·.1)=false:=by rfl) :
  PE X (.Call (.Attribute o name apos) (e::es) [] cpos) (tBMH r to t):=by
 intro pins s σ H Q I h
 refine wpAny_Call_method_late hbase hfew hline rfl (thn (ho pins s σ H _ I h) λv s1 ⟨x,H1,I1,r1,⟨p,xs,ex,ob,hd,hp⟩,q1⟩=>?_)
 subst ex
 cases r1
 obtain⟨e1,_,its,_,ob2,e2,e3,_⟩:=(show ZS X.prog X.w H1 s1.heap p (.frz ob (.tup xs))from I1.hok p _ hp)
 rw[e1]at e2
 cases e2
 refine⟨"tuple",id,PySem.F.plainAttrs_tuple,slot,hty,⟨ob,e1,e3⟩,(λa z=>by cases z;exact⟨ob,e1,hd⟩),?_⟩
 have hA:=ha cpos pins s1 σ H1 _ I1 q1
 rw[hs]at hA⊢
 refine Calls.callWith_builtin (by show(false||(backTo cpos (starEach es X.env)).any (·.1))=false;rw[hplain]<;>rfl) (Calls.evalArgs_plain ?_)
 exact thn hA λus s2 ⟨vs,H2,I2,r2,q2⟩=>hm pins s2 σ H2 (.ref p) vs (.ref p) us Q I2 rfl r2 q2
end
section
variable {X:Cx}
noncomputable def rIsiS (K:Frag):List V->Hp->VK->Prop:=λxs H Q=>∃p ys v,xs=[.ref p,v]/\cOf v=some (.type "tuple")/\SqT K H p ys/\Q (.bl true) H
theorem ZjT {K:Frag} (hK:X.K=K):ZbL X (.builtin "isinstance") (rIsiS K):=by
 subst hK
 intro pins s σ H xs us Q I r h
 obtain⟨p,ys,v,rfl,hc,ht,q⟩:=h
 obtain⟨u,u2,rfl,ru,ru2⟩:=r.two
 have e2:u2=.type "tuple":=by
  cases v with
  |ref a=>cases hc
  |ty n=>have:=(show u2=Value.type n from ru2);cases hc;exact this
  |_=>cases hc
 subst e2
 cases(show u=Value.ref p from ru)
 obtain⟨its,_,⟨o,h1,h2,_⟩,_⟩:=I.tuple ht
 exact kia_one kitx_tuple I.kIn ⟨o,h1,h2⟩ (show kitOne X.K (.type "tuple") (.type "tuple")=some true by with_unfolding_all rfl) (λz=>nomatch z) λtk=>⟨.bl true,H,I.tok tk,rfl,q⟩
end
noncomputable abbrev KO:=Option Int
noncomputable def koIs:KO->Value->Bool
 |some k,v=>Value.isInt k v
 |none,.none=>true
 |none,_=>false
noncomputable def koH:KO->Int
 |some k=>hashInt k
 |none=>0xFCA86420
theorem Zar:∀{k:KO}{v:Value},koIs k v=true->(∃i t,k=some i/\v=Value.int i t)\/(k=none/\v=Value.none)
 |some i,v,h=>by
  obtain⟨t,e⟩:=Value.isInt_shape (k:=i) (v:=v) h
  exact .inl ⟨i,t,rfl,e⟩
 |none,v,h=>by
  cases v<;>first|exact .inr ⟨rfl,rfl⟩|exact absurd h (by simp[koIs])
theorem ZpG (i:Int) (t:Tok):koIs (some i) (.int i t)=true:=by simp[koIs,Value.isInt]
theorem ZnR {prog:Program}{w:World}{A:Around}{E:Value->Shared->Prop}{s:Shared}{Q:Int->Shared->Prop} (h:Q 0xFCA86420 {s with toks:=s.toks+1}):wpAny (model prog w) A (pyHash .none) Q E s:=by
 unfold pyHash
 have hv:[Value.none].any Value.onHeap=false:=rfl
 refine Ya ?_
 rw[cRoomFor,Yb (by rw[hv];exact Yw)];refine Ye ?_
 refine Ya (wpAny_specialOf (typeIs_none s) PySem.F.slot_NoneType_hash.lookup ?_)
 show wpAny _ _ (if (some (Value.builtin "NoneType.__hash__")==some Value.none)=true then _ else _) Q E s
 rw[Yb (by rw[beq_builtin_none];exact Yw)]
 refine Ya (wpAny_specialOf (typeIs_none s) PySem.F.slot_NoneType_hash.lookup ?_)
 show wpAny _ _ (callSpecialIfBoundUnlessNone? .none "__hash__" _ >>= _) Q E s
 refine Ya (wpAny_callSpecialIfBoundUnlessNone?_slot (typeIs_none s) PySem.F.slot_NoneType_hash
  (wpAny_call_entry PySem.F.slot_NoneType_hash (typeIs_none s) PySem.F.entry_NoneType_hash
   (show wpAny _ _ (do ret (<-mkInt 0xFCA86420)) _ _ s from wpAny_ret_mkInt ?_) (PySem.F.args_NoneType_hash_1 _)))
 exact Ye h
noncomputable def optKind (prog:Program) (w:World):PySem.KeyKind prog w KO where
 is:=koIs
 hash:=koH
 inj:=λv a b ha hb=>by
  rcases Zar ha with⟨i,t,rfl,rfl⟩|⟨rfl,rfl⟩
  ·rcases Zar hb with⟨j,u,rfl,e⟩|⟨rfl,e⟩
   ·injection e with e1 _;rw[e1]
   ·exact nomatch e
  ·rcases Zar hb with⟨j,u,rfl,e⟩|⟨rfl,e⟩
   ·exact nomatch e
   ·rfl
 byValue:=λk v h=>by
  rcases Zar h with⟨i,t,rfl,rfl⟩|⟨rfl,rfl⟩<;>rfl
 pyHash:=λhv h=>by
  rcases Zar hv with⟨i,t,rfl,rfl⟩|⟨rfl,rfl⟩
  ·exact wpAny_pyHash_int h
  ·exact ZnR h
 eqBool:=λ{A E s a b u v Q} hu hv h=>by
  rcases Zar hu with⟨i,t,rfl,rfl⟩|⟨rfl,rfl⟩
  ·rcases Zar hv with⟨j,u,rfl,rfl⟩|⟨rfl,rfl⟩
   ·rw[show decide ((some i:KO)=some j)=(i==j) by by_cases e:i=j<;>simp[e]]at h
    exact wpAny_eqBool_int h
   ·exact SeqAt.EqAt.int_none i t _ _ _ _ h
  ·rcases Zar hv with⟨j,u,rfl,rfl⟩|⟨rfl,rfl⟩
   ·exact SeqAt.EqAt.none_int j u _ _ _ _ h
   ·exact SeqAt.EqAt.same .none _ _ _ _ h
 «strs»:=λk x t v h=>by
  rcases Zar h with⟨i,u,rfl,e⟩|⟨rfl,e⟩<;>exact nomatch e
noncomputable def oV:KO->V
 |some i=>.int i
 |none=>.non
theorem ZpH {P:Program}{w:World}{k:KO}{u:Value} (r:RelV (oV k) u):(optKind P w).is k u=true:=by
 cases k with
 |some i=>obtain⟨t,e⟩:=(show ∃t,u=Value.int i t from r);subst e;exact ZpG i t
 |none=>cases(show u=Value.none from r);rfl
theorem pairsO {P P':Program}{w w':World}{es:List DictEntry}{kvs:List (KO×Value)} (h:Pairs (optKind P w) es kvs):Pairs (optKind P' w') es kvs:=by
 induction h with
 |nil=>exact .nil
 |cons a b _ ih=>exact .cons a b ih
theorem dictO {P P':Program}{w w':World}{h:Heap}{a:Addr}{kvs:List (KO×Value)} (d:h.DictOf (optKind P w) a kvs):h.DictOf (optKind P' w') a kvs:=by
 obtain⟨o,es,ep,h1,h2,h3,h4,h5,h6⟩:=d
 exact⟨o,es,ep,h1,h2,h3,h4,pairsO h5,h6⟩
noncomputable def Zd5 (a:Addr) (kvs:List (KO×V)):Heap->Prop:=λh=>kvs.length<=sizeLine/\(a==sysModules)=false/\∃vs,KV kvs vs/\∀(P:Program) (w:World),h.DictOf (optKind P w) a vs
theorem Zki {P:Program}{w:World}{H:Hp}{h:Heap}{a:Addr}{kvs:List (KO×V)}{vs:List (KO×Value)} (z:kvs.length<=sizeLine) (hd:(a==sysModules)=false) (rel:KV kvs vs) (dd:h.DictOf (optKind P w) a vs):ZS P w H h a (.ext (Zd5 a kvs)):=by
 refine⟨⟨z,hd,vs,rel,λ_ _=>dictO dd⟩,?_,λh1 h2 p k=>?_⟩
 ·obtain⟨o,_,_,e,_⟩:=dd
  exact⟨o,e⟩
 ·obtain⟨a1,a2,vs,a3,a4⟩:=p
  refine⟨a1,a2,vs,a3,λP w=>?_⟩
  obtain⟨o,es,ep,e,r⟩:=a4 P w
  exact⟨o,es,ep,k o e,r⟩
section
variable {X:Cx}{pins:List (Addr×Obj)}{σ:St}{H:Hp}{s:Shared}{a:Addr}
theorem Zkj {kvs:List (KO×V)} (I:Inv X pins σ H s) (e:H a=some (.ext (Zd5 a kvs))):kvs.length<=sizeLine/\(a==sysModules)=false/\∃vs,KV kvs vs/\s.heap.DictOf (optKind X.prog X.w) a vs:=by
 obtain⟨⟨a1,a2,vs,a3,a4⟩,_⟩:=(show ZS X.prog X.w H s.heap a (.ext (Zd5 a kvs))from I.hok a _ e)
 exact⟨a1,a2,vs,a3,a4 _ _⟩
end
noncomputable def tDGetO (td ty:TE):TE:=fun σ H Q=>td σ H λx H1=>ty σ H1 λy H2=>∃a kvs k v,x=.ref a/\H2 a=some (.ext (Zd5 a kvs))/\y=oV k/\Zak kvs k=some v/\Q v H2
noncomputable def sDPutO (td ty tv:TE):TS:=λD σ H=>tv σ H λv H1=>td σ H1 λx H2=>ty σ H2 λy H3=>∃a kvs k,x=.ref a/\H3 a=some (.ext (Zd5 a kvs))/\y=oV k/\kvs.length<sizeLine/\D.nx σ (upd H3 a (.ext (Zd5 a (putK kvs k v))))
noncomputable def tDispO (tk tv:TE):TE:=fun σ H Q=>∀p,H p=none->tk σ (upd H p (.ext (Zd5 p []))) λx H1=>tv σ H1 λy H2=>H2 p=some (.ext (Zd5 p []))/\∃k z,[(x,y)]=[(oV k,z)]/\Q (.ref p) (upd H2 p (.ext (Zd5 p [(k,z)])))
section
variable {X:Cx}{o i e value:Expr}{pos pos' tpos:Pos}{td ty tv tk:TE}
theorem Zgo (ho:PE X o td) (hi:PE X i ty) (hs:NoSl i):PE X (.Subscript o i pos) (tDGetO td ty):=by
 intro pins s σ H Q I h
 refine Zm0 PySem.F.slot_dict_getitem.lookup hs (thn (ho pins s σ H _ I h) λu s1 ⟨x,H1,I1,rx,q1⟩=>thn (hi pins s1 σ H1 _ I1 q1) λiv s2 ⟨y,H2,I2,ry,a,kvs,k,v,ex,g,ey,l,q2⟩=>?_)
 subst ex ey
 obtain rfl:u=Value.ref a:=rx
 obtain⟨z,hd,vs,rel,dd⟩:=Zkj I2 g
 obtain⟨w',hw,rw'⟩:=Zd6.some_of (v:=v) (o:=valueAt vs k) (by rw[<-l];exact rel.val k)
 exact⟨dd.typeIs,wpAny_getItem_of (ZpH ry) dd.mapOf hw ⟨v,H2,I2.tok _,rw',q2⟩⟩
theorem ZpI (ho:PE X o td) (hi:PE X i ty) (hv:PE X value tv) (hs:swapsWith value (some (.Subscript o i pos')) pos.line X.env=pure false) :
  PS X (.Assign [.Subscript o i pos'] value pos) (sDPutO td ty tv):=by
 intro pins s σ H D I h
 refine wpAny_Assign_Subscript (thn (hv pins s σ H _ I h) λr s1 ⟨v,H1,I1,rv,q1⟩=>thn (ho pins s1 σ H1 _ I1 q1) λu s2 ⟨x,H2,I2,rx,q2⟩=>thn (hi pins s2 σ H2 _ I2 q2) λiv s3 ⟨y,H3,I3,ry,a,kvs,k,ex,g,ey,hl0,q3⟩=>?_) hs
 subst ex ey
 obtain rfl:u=Value.ref a:=rx
 obtain⟨z,hd,vs,rel,dd⟩:=Zkj I3 g
 have hz:vs.length<=sizeLine:=by rw[<-rel.length];exact z
 have hl:(putK kvs k v).length<=sizeLine:=by have:=ZbQ kvs k v;omega
 refine wpAny_setItem_pairs (hsz:=hz) (ZpH ry) dd λh' dd' hs=>?_
 have he:∃q,h'.get? a=some q:=let ⟨q,_,_,hq,_⟩:=dd';⟨q,hq⟩
 exact⟨σ,_,ZhZ I3 (by rw[g];exact True.intro) hs he (Zki hl hd (rel.put k rv) dd'),q3⟩
theorem ZpJ {P:Program}{w:World}{H:Hp} (h:Heap) (hb:sysModules<h.objs.size):ZS P w H (h.push {cls:=.type "dict",data:=.dict #[]}) h.objs.size (.ext (Zd5 h.objs.size [])) :=
 Zki (vs:=[]) (Yn _) (beq_eq_false_iff_ne.mpr (Ne.symm (Yk hb))) .nil (Heap.DictOf.new h)
theorem ZpK {k v:Expr} (hk:PE X k tk) (hv:PE X v tv):PE X (.Dict [some k] [v] pos) (tDispO tk tv):=by
 intro pins s σ H Q I q
 have hn:=I.hok.fresh (Yd s.heap.objs.size)
 have I1:=I.laid (a:=s.heap.objs.size) (o:=.ext (Zd5 s.heap.objs.size [])) (h':=s.heap.push {cls:=.type "dict",data:=.dict #[]}) (t':=s.toks) (λ_ _ q=>Yg _ q) (Yd _) (ZpJ s.heap I.big)
 have hp:PPs X pos [some k] [v] [(tk,tv)]:=Zpt hk hv Zrz
 refine wpAny_Dict_walk (knd:=optKind X.prog X.w) rfl rfl (by simp) (by show 1<=15;decide) (thn (hp pins _ σ _ (λps H2=>H2 s.heap.objs.size=some (.ext (Zd5 s.heap.objs.size []))/\∃k y,ps=[(oV k,y)]/\Q (.ref s.heap.objs.size) (upd H2 s.heap.objs.size (.ext (Zd5 s.heap.objs.size [(k,y)])))) I1 ?_) λws s2 ⟨ps,H2,I2,rel,e,kk,y,ep,q2⟩=>?_)
 ·have:=q _ hn
  show tk σ _ _
  exact this
 subst ep
 cases rel with
 |@cons a b as bs h t =>
  cases t
  obtain⟨b1,b2⟩:=b
  obtain⟨z,hd,vs0,r0,dd⟩:=Zkj I2 e
  cases r0
  refine⟨[(kk,b2)],⟨ZpH h.1,rfl,True.intro⟩,dd,λh' dd' hs=>⟨.ref s.heap.objs.size,_,?_,rfl,q2⟩⟩
  have he:∃q,h'.get? s.heap.objs.size=some q:=let ⟨q,_,_,hq,_⟩:=dd';⟨q,hq⟩
  exact ZhZ I2 (by rw[e];exact True.intro) hs he (Zki (vs:=[(kk,b2)]) (by show 1<=sizeLine;decide) hd (.cons ⟨rfl,h.2⟩ .nil) dd')
end
end L2
namespace L2
open PySem PySem.Spec PyProof.Rows PySem.W
end L2
namespace HT
open PySem PyProof.Rows
section
open PySem.SeqAt
open PySem.AutoSeq1 (wpAny_loadPart')
open PySem.MeetsSeq PySem.MeetsSeq2 PySem.MeetsSeq3
end
end HT
namespace L2
open PySem PySem.Spec PyProof.Rows PySem.W
end L2
namespace K34
open PySem PySem.Spec PyProof.Rows L2
open PySem.W (nsIn mg_of fnOf keepIn codeIn mg_none_of)
local macro_rules | `(tactic| walk_at "rd") => `(tactic| simp only [tIfS, tNot, tTest, tChain, rI0, rI, rU, tVar, tC, tB, tIf, tAndV, tNotV, tCall, tCallX, tCons, tNil, tAsg, tSeq, tRet, tNext, tOp, tUn, tAnd, tOr, tDrop, gName, gSub, tAug, tCB, tSl, tRaise, tLst, tTup, L2.start, tYes, gTup, gCons, gNil, iniC, Option.join_some, Option.join_none, rEq, rNe, Zrh, Zri, Zrj, Zrk, Zrl, Zrm, tBM, Bool.true_eq_false, YF, List.map_nil, List.cons_append, List.nil_append, Yq, List.length_nil, List.replicate, List.append_nil, List.set_cons_zero, List.set_cons_succ, List.getElem?_cons_zero, List.getElem?_cons_succ, Option.some.injEq, V.int.injEq, V.bl.injEq, V.ref.injEq, List.cons.injEq, and_true, true_and, exists_eq_left, exists_eq_left', exists_and_left, exists_eq, decide_eq_true_eq, Bool.not_eq_true', decide_eq_false_iff_not, cxK, and_assoc, Bool.false_eq_true, ↓reduceIte, Zrg, Znm, Zo5, iRng1, iRng2, iList, iTup, rIxL, rIxT, rSetL, rCat, rIsi, rSum, rCount, tDelT, rIntB, rInsert, rLen, rLof, rTof, rTofF, rIsiS, tBMH, rIndexT, iSeq, rEqD, tRngV, tRngV2, gSubSl, iEnum, iEnumT, tMaxD, tMinD, rAll, ipM, rIxQ, tRev, rSlL, tPart, tNoPart, tSl, ipI, rAppend, rRep, Zrn, cOf_ty, rTupR2, rPopAt, iRevR, V.str.injEq, tFldC, sFldC, tMeth, tMake, tDNewK, tDGet, sDPut, tDNotIn, tLam, tSortR2, gLst, rIndexT, rTofF, rIsiS, tBMH, iRngD, iEnumQ, iEnumS, tDGetO, sDPutO, tDispO])
noncomputable def top (i:Nat):Stmt:=PySem.Challenge.pw_dipkin_k34_fills_refused.main.body.getD i (.Pass ⟨0,0,0,0⟩)
noncomputable abbrev s_settle:Stmt:=top 14
noncomputable abbrev s_tree_of:Stmt:=top 15
noncomputable abbrev s_way_up:Stmt:=top 16
noncomputable abbrev s_is_tree:Stmt:=top 17
noncomputable abbrev s_need_tree:Stmt:=top 18
noncomputable abbrev Zba:Stmt:=top 19
noncomputable abbrev s_young_of:Stmt:=top 20
noncomputable abbrev s_from_below:Stmt:=top 21
noncomputable abbrev s_running_sums:Stmt:=top 23
noncomputable abbrev ZbA:Stmt:=top 25
noncomputable abbrev ZgW:Stmt:=top 27
noncomputable abbrev s_need_few:Stmt:=top 30
noncomputable abbrev s_span_ways:Stmt:=top 31
noncomputable abbrev s_Filling___init__:Stmt:=inClass (top 32) 0
noncomputable abbrev s_Filling_how_many_rows:Stmt:=inClass (top 32) 1
noncomputable abbrev ZJ:Stmt:=inClass (top 32) 2
noncomputable abbrev ZD:Stmt:=inClass (top 32) 3
noncomputable abbrev ZM:Stmt:=inClass (top 32) 4
noncomputable abbrev ZU:Stmt:=inClass (top 32) 5
noncomputable abbrev s_many_rows:Stmt:=top 33
noncomputable abbrev Zdm:Stmt:=top 34
noncomputable abbrev Zab:Stmt:=top 35
noncomputable abbrev ZaA:Stmt:=top 36
noncomputable abbrev s__law_deal:Stmt:=top 38
noncomputable abbrev s__law_take:Stmt:=top 39
noncomputable abbrev s__law_unlike:Stmt:=top 40
noncomputable abbrev s__law_row:Stmt:=top 41
noncomputable abbrev s__law_tree:Stmt:=top 42
noncomputable abbrev Zbb:Stmt:=top 43
noncomputable abbrev Zbc:Stmt:=top 44
noncomputable abbrev s__law_whole:Stmt:=top 45
noncomputable abbrev Zal:Stmt:=top 46
noncomputable abbrev ZaQ:Stmt:=top 47
noncomputable abbrev s__law_counted:Stmt:=top 48
noncomputable abbrev s__law_many:Stmt:=top 49
noncomputable abbrev Zam:Stmt:=top 50
noncomputable abbrev Zbd:Stmt:=top 51
noncomputable abbrev ZaR:Stmt:=top 52
noncomputable abbrev ZbB:Stmt:=top 53
noncomputable abbrev s__law_right:Stmt:=top 54
noncomputable abbrev s_law:Stmt:=top 55
structure Txt (K:PySem.W.Frag) (mg:Str->Option Value):Prop where
 b_ValueError:mg "ValueError"=none
 b_all:mg "all"=none
 b_bool:mg "bool"=none
 b_enumerate:mg "enumerate"=none
 b_int:mg "int"=none
 b_isinstance:mg "isinstance"=none
 b_len:mg "len"=none
 b_list:mg "list"=none
 b_max:mg "max"=none
 b_min:mg "min"=none
 b_range:mg "range"=none
 b_reversed:mg "reversed"=none
 b_sorted:mg "sorted"=none
 b_sum:mg "sum"=none
 b_tuple:mg "tuple"=none
 c_DipError:mg "DipError"=some (.ref (clsAt mg "DipError"))
 x_DipError:PySem.W.excIn K (clsAt mg "DipError") bmV newV=true
 c_Unlike:mg "Unlike"=some (.ref (clsAt mg "Unlike"))
 x_Unlike:PySem.W.excIn K (clsAt mg "Unlike") bmV newV=true
 c_Empty:mg "Empty"=some (.ref (clsAt mg "Empty"))
 x_Empty:PySem.W.excIn K (clsAt mg "Empty") bmV newV=true
 c_TooMany:mg "TooMany"=some (.ref (clsAt mg "TooMany"))
 x_TooMany:PySem.W.excIn K (clsAt mg "TooMany") bmV newV=true
 c_NoTree:mg "NoTree"=some (.ref (clsAt mg "NoTree"))
 x_NoTree:PySem.W.excIn K (clsAt mg "NoTree") bmV newV=true
 c_NoTelling:mg "NoTelling"=some (.ref (clsAt mg "NoTelling"))
 x_NoTelling:PySem.W.excIn K (clsAt mg "NoTelling") bmV newV=true
 c_NoPlace:mg "NoPlace"=some (.ref (clsAt mg "NoPlace"))
 x_NoPlace:PySem.W.excIn K (clsAt mg "NoPlace") bmV newV=true
 c_NoNumber:mg "NoNumber"=some (.ref (clsAt mg "NoNumber"))
 x_NoNumber:PySem.W.excIn K (clsAt mg "NoNumber") bmV newV=true
 c_NoPast:mg "NoPast"=some (.ref (clsAt mg "NoPast"))
 x_NoPast:PySem.W.excIn K (clsAt mg "NoPast") bmV newV=true
 c_NoText:mg "NoText"=some (.ref (clsAt mg "NoText"))
 x_NoText:PySem.W.excIn K (clsAt mg "NoText") bmV newV=true
 c_NoLine:mg "NoLine"=some (.ref (clsAt mg "NoLine"))
 x_NoLine:PySem.W.excIn K (clsAt mg "NoLine") bmV newV=true
 ex_NoTree:ExK K (clsAt mg "NoTree")
 up_NoTree:PySem.W.mroIn K (clsAt mg "NoTree") (.ref (clsAt mg "DipError"))=some true
 is_NoTree_DipError:PySem.W.kitOne K (.ref (clsAt mg "NoTree")) (.ref (clsAt mg "DipError"))=some true
 is_NoTree_Unlike:PySem.W.kitOne K (.ref (clsAt mg "NoTree")) (.ref (clsAt mg "Unlike"))=some false
 is_NoTree_Empty:PySem.W.kitOne K (.ref (clsAt mg "NoTree")) (.ref (clsAt mg "Empty"))=some false
 is_NoTree_TooMany:PySem.W.kitOne K (.ref (clsAt mg "NoTree")) (.ref (clsAt mg "TooMany"))=some false
 is_NoTree_NoTree:PySem.W.kitOne K (.ref (clsAt mg "NoTree")) (.ref (clsAt mg "NoTree"))=some true
 is_NoTree_NoTelling:PySem.W.kitOne K (.ref (clsAt mg "NoTree")) (.ref (clsAt mg "NoTelling"))=some false
 is_NoTree_NoPlace:PySem.W.kitOne K (.ref (clsAt mg "NoTree")) (.ref (clsAt mg "NoPlace"))=some false
 is_NoTree_NoNumber:PySem.W.kitOne K (.ref (clsAt mg "NoTree")) (.ref (clsAt mg "NoNumber"))=some false
 is_NoTree_NoPast:PySem.W.kitOne K (.ref (clsAt mg "NoTree")) (.ref (clsAt mg "NoPast"))=some false
 is_NoTree_NoText:PySem.W.kitOne K (.ref (clsAt mg "NoTree")) (.ref (clsAt mg "NoText"))=some false
 is_NoTree_NoLine:PySem.W.kitOne K (.ref (clsAt mg "NoTree")) (.ref (clsAt mg "NoLine"))=some false
 is_NoTree_V:PySem.W.kitOne K (.ref (clsAt mg "NoTree")) (.type "ValueError")=some true
 ex_TooMany:ExK K (clsAt mg "TooMany")
 up_TooMany:PySem.W.mroIn K (clsAt mg "TooMany") (.ref (clsAt mg "DipError"))=some true
 is_TooMany_DipError:PySem.W.kitOne K (.ref (clsAt mg "TooMany")) (.ref (clsAt mg "DipError"))=some true
 is_TooMany_Unlike:PySem.W.kitOne K (.ref (clsAt mg "TooMany")) (.ref (clsAt mg "Unlike"))=some false
 is_TooMany_Empty:PySem.W.kitOne K (.ref (clsAt mg "TooMany")) (.ref (clsAt mg "Empty"))=some false
 is_TooMany_TooMany:PySem.W.kitOne K (.ref (clsAt mg "TooMany")) (.ref (clsAt mg "TooMany"))=some true
 is_TooMany_NoTree:PySem.W.kitOne K (.ref (clsAt mg "TooMany")) (.ref (clsAt mg "NoTree"))=some false
 is_TooMany_NoTelling:PySem.W.kitOne K (.ref (clsAt mg "TooMany")) (.ref (clsAt mg "NoTelling"))=some false
 is_TooMany_NoPlace:PySem.W.kitOne K (.ref (clsAt mg "TooMany")) (.ref (clsAt mg "NoPlace"))=some false
 is_TooMany_NoNumber:PySem.W.kitOne K (.ref (clsAt mg "TooMany")) (.ref (clsAt mg "NoNumber"))=some false
 is_TooMany_NoPast:PySem.W.kitOne K (.ref (clsAt mg "TooMany")) (.ref (clsAt mg "NoPast"))=some false
 is_TooMany_NoText:PySem.W.kitOne K (.ref (clsAt mg "TooMany")) (.ref (clsAt mg "NoText"))=some false
 is_TooMany_NoLine:PySem.W.kitOne K (.ref (clsAt mg "TooMany")) (.ref (clsAt mg "NoLine"))=some false
 is_TooMany_V:PySem.W.kitOne K (.ref (clsAt mg "TooMany")) (.type "ValueError")=some true
 ex_NoNumber:ExK K (clsAt mg "NoNumber")
 up_NoNumber:PySem.W.mroIn K (clsAt mg "NoNumber") (.ref (clsAt mg "DipError"))=some true
 is_NoNumber_DipError:PySem.W.kitOne K (.ref (clsAt mg "NoNumber")) (.ref (clsAt mg "DipError"))=some true
 is_NoNumber_Unlike:PySem.W.kitOne K (.ref (clsAt mg "NoNumber")) (.ref (clsAt mg "Unlike"))=some false
 is_NoNumber_Empty:PySem.W.kitOne K (.ref (clsAt mg "NoNumber")) (.ref (clsAt mg "Empty"))=some false
 is_NoNumber_TooMany:PySem.W.kitOne K (.ref (clsAt mg "NoNumber")) (.ref (clsAt mg "TooMany"))=some false
 is_NoNumber_NoTree:PySem.W.kitOne K (.ref (clsAt mg "NoNumber")) (.ref (clsAt mg "NoTree"))=some false
 is_NoNumber_NoTelling:PySem.W.kitOne K (.ref (clsAt mg "NoNumber")) (.ref (clsAt mg "NoTelling"))=some false
 is_NoNumber_NoPlace:PySem.W.kitOne K (.ref (clsAt mg "NoNumber")) (.ref (clsAt mg "NoPlace"))=some false
 is_NoNumber_NoNumber:PySem.W.kitOne K (.ref (clsAt mg "NoNumber")) (.ref (clsAt mg "NoNumber"))=some true
 is_NoNumber_NoPast:PySem.W.kitOne K (.ref (clsAt mg "NoNumber")) (.ref (clsAt mg "NoPast"))=some false
 is_NoNumber_NoText:PySem.W.kitOne K (.ref (clsAt mg "NoNumber")) (.ref (clsAt mg "NoText"))=some false
 is_NoNumber_NoLine:PySem.W.kitOne K (.ref (clsAt mg "NoNumber")) (.ref (clsAt mg "NoLine"))=some false
 is_NoNumber_V:PySem.W.kitOne K (.ref (clsAt mg "NoNumber")) (.type "ValueError")=some true
 c_Filling:mg "Filling"=some (.ref (clsAt mg "Filling"))
 cl_Filling:Cls K (clsAt mg "Filling")
 n_Filling_tree:NoAttr K (clsAt mg "Filling") "tree"
 n_Filling_most:NoAttr K (clsAt mg "Filling") "most"
 n_Filling_young:NoAttr K (clsAt mg "Filling") "young"
 n_Filling_spans:NoAttr K (clsAt mg "Filling") "spans"
 n_Filling_outsides:NoAttr K (clsAt mg "Filling") "outsides"
 n_Filling_row:NoAttr K (clsAt mg "Filling") "row"
 m_MOST_PLACES:mg "MOST_PLACES"=some (.int 40 (tokAt mg "MOST_PLACES"))
 m_MOST_FILLED:mg "MOST_FILLED"=some (.int 12 (tokAt mg "MOST_FILLED"))
noncomputable def tabsL (K:PySem.W.Frag) (mg:Str->Option Value):List (Addr×Str):=[(Zkh K mg "from_below",lamQ "from_below")]
noncomputable abbrev SpT:=PySem.W.Frag->(Str->Option Value)->Sp
noncomputable def spLaw (K:PySem.W.Frag) (mg:Str->Option Value):Sp:=λvs H Q E=>∃(a:Addr) (ns:List Int),vs=[.ref a]/\SqL K H a (ns.map V.int)/\ns.length<=63/\(∀p∈tabsL K mg,H p.1=some (Zit p.2))/\∀H',Q (.bl true) H'
noncomputable def sp__law_whole:SpT:=λK mg vs H Q E=>∃i:Int,vs=[.int i]/\Q (.bl true) H
noncomputable def sp__law_deal:SpT:=λK mg vs H Q E=>∃cell:Int,vs=[.int cell]/\∀p H',H p=none->Zg H H'->ZL H' p->Q (.ref p) H'
noncomputable def sp__law_take:SpT:=λK mg vs H Q E=>∃(p:Addr) (many:Int),vs=[.ref p,.int many]/\0<many/\many<=4000000000/\ZL H p/\∀d H',0<=d->d<many->ZL H' p->Exc p H H'->Q (.int d) H'
noncomputable def sp__law_unlike:SpT:=λK mg vs H Q E=>∃(p:Addr) (many:Int),vs=[.ref p,.int many]/\0<=many/\many<=1000/\ZL H p/\∀(r:Addr) (ns:List Int) H',H r=none->(ns.length:Int)=many->H' r=some (.lst (ns.map V.int))->ZL H' p->Exc p H H'->Q (.ref r) H'
noncomputable def sp__law_row:SpT:=λK mg vs H Q E=>∃(p:Addr) (most:Int),vs=[.ref p,.int most]/\0<=most/\most<=1000/\ZL H p/\∀(r:Addr) (ns:List Int) H',H r=none->(ns.length:Int)<=most->H' r=some (.lst (ns.map V.int))->ZL H' p->Exc p H H'->Q (.ref r) H'
noncomputable def sp__law_tree:SpT:=λK mg vs H Q E=>∃(r:Addr) (ns:List Int),vs=[.ref r]/\(SqL K H r (ns.map V.int)\/SqT K H r (ns.map V.int))/\ns.length<=1000/\∀(t:Addr) (es:List Int) H',H t=none->Zl ns es->Zg H H'->Zeo H' t (es.map V.int)->Q (.ref t) H'
noncomputable def ZdC:SpT:=λK mg vs H Q E=>∃(t:Addr) (T:List Int) (p:Nat),vs=[.ref t,.int p]/\SqT K H t (T.map V.int)/\T.length<=1000/\p<T.length/\Za8 T T.length (nth T p)/\∀(w:Addr) H',H w=none->Zg H H'->H' w=some (.lst ((wayI T p).map V.int))->Q (.ref w) H'
noncomputable def sp_settle:SpT:=λK mg vs H Q E=>∃(el sp:Addr) (es:List Int) (A B:List Nat) (i:Nat),vs=[.ref el,.ref sp,.int i,.int A.length]/\H el=some (.lst (es.map V.int))/\H sp=some (.lst (ZR (A++B)))/\el≠sp/\i<es.length/\(∀q∈A++B,q<es.length)/\(A++B).length<=1000 /\
 ∀H',(∀b o,b≠el->b≠sp->H b=some o->H' b=some o)->H' el=some (.lst ((ZhH es A B i).map V.int))->H' sp=some (.lst (ZR (A++[i])))->Q .non H'
noncomputable def sp_tree_of:SpT:=λK mg vs H Q E=>∃(r:Addr) (ns:List Int),vs=[.ref r]/\(SqL K H r (ns.map V.int)\/SqT K H r (ns.map V.int))/\ns.length<=1000/\∀(t:Addr) (es:List Int) H',Zl ns es->Zg H H'->H' t=some (.tup (es.map V.int))->Q (.ref t) H'
noncomputable def sp_way_up:SpT:=λK mg vs H Q E=>∃(t:Addr) (T:List Int) (p:Nat),vs=[.ref t,.int p]/\SqT K H t (T.map V.int)/\T.length<=1000/\p<T.length/\∀(w:Addr) H',H w=none->Zg H H'->H' w=some (.lst ((wayI T p).map V.int))->Q (.ref w) H'
noncomputable def sp_is_tree:SpT:=λK mg vs H Q E=>∃(t:Addr) (T:List Int),vs=[.ref t]/\SqT K H t (T.map V.int)/\T.length<=1000/\(ZT T->∀H',Zg H H'->Q (.bl true) H')/\(¬ ZT T->∀H',Zg H H'->Q (.bl false) H')
noncomputable def sp_need_tree:SpT:=λK mg vs H Q E=>∃(t:Addr) (T:List Int),vs=[.ref t]/\SqT K H t (T.map V.int)/\T.length<=1000/\(ZT T->∀H',Zg H H'->Q .non H')/\(¬ ZT T->∀H',Zg H H'->E (.ref (clsAt mg "NoTree")) none H')
noncomputable def sp_fences_of:SpT:=λK mg vs H Q E=>∃(t:Addr) (ns T:List Int),vs=[.ref t]/\SqT K H t (T.map V.int)/\Zl ns T/\ns.length<=1000/\∀(l:Addr) H',Zg H H'->Za3 H' l ns.length (λp=>(ZaX (nth ns) p,Za1 (nth ns) ns.length p))->Q (.ref l) H'
noncomputable def spanL (f:Nat->Int) (n:Nat):List (List Int):=(List.range n).map λp=>[ZaX f p+1,Za1 f n p-1]
noncomputable def sp_spans_of:SpT:=λK mg vs H Q E=>∃(t:Addr) (T:List Int),vs=[.ref t]/\SqT K H t (T.map V.int)/\T.length<=1000/\((∃ns:List Int,T.length<=40/\Zl ns T/\∀(l:Addr) H',H l=none->Zg H H'->TupsAt H' l (spanL (nth ns) ns.length)->Q (.ref l) H')\/(¬ ZT T/\∀H',Zg H H'->E (.ref (clsAt mg "NoTree")) none H'))
noncomputable def optN:Option Nat->V
 |none=>.non
 |some i=>.int (i:Int)
noncomputable def AheadIs (T:List Int) (v:Nat):Option Nat->Prop
 |none=>∀c,c<v->c<T.length->nth T c≠v
 |some c=>c<v/\c<T.length/\nth T c=v
noncomputable def BehindIs (T:List Int) (v:Nat):Option Nat->Prop
 |none=>∀c,v<c->c<T.length->nth T c≠v
 |some c=>v<c/\c<T.length/\nth T c=v
noncomputable def YoungAt (H:Hp) (y:Addr) (T:List Int):Prop:=∃as:List Addr,H y=some (.lst (as.map V.ref))/\as.length=T.length/\∀(v:Nat) (a:Addr),as[v]?=some a->∃ah bh,AheadIs T v ah/\BehindIs T v bh/\H a=some (.lst [optN ah,optN bh])
noncomputable def sp_young_of:SpT:=λK mg vs H Q E=>∃(t:Addr) (T:List Int),vs=[.ref t]/\SqT K H t (T.map V.int)/\ZT T/\∀(y:Addr) H',H y=none->YoungAt H' y T->Zg H H'->Q (.ref y) H'
noncomputable def dpI (T:List Int) (i:Int):Int:=((wayI T i.toNat).length:Int)
noncomputable def sp_from_below:SpT:=λK mg vs H Q E=>∃(t:Addr) (T:List Int),vs=[.ref t]/\SqT K H t (T.map V.int)/\ZT T/\Zb6 K mg "from_below" H/\∀(l:Addr) (ps:List Int) H',H l=none->Zg H H'->ps.Perm (nats (T.length:Int))->(ps.Pairwise λx y=>dpI T y<=dpI T x)->H' l=some (.lst (ps.map V.int))->Q (.ref l) H'
noncomputable def cOf (c:Nat->Nat->Nat):Option Nat->Nat->Nat
 |none,_=>1
 |some p,j=>c p j
noncomputable def WayOf (T:List Int) (m:Nat) (c:Nat->Nat->Nat) (p:Nat):Prop:=∃ah bh,AheadIs T p ah/\BehindIs T p bh/\∀j,j<=m->c p j=if j=m then 0 else cOf c ah (j+1)*cOf c bh j+c p (j+1)
noncomputable def WaysIs (T:List Int) (m:Nat) (c:Nat->Nat->Nat):Prop:=∀p,p<T.length->WayOf T m c p
noncomputable def wayL (m:Nat) (f:Nat->Nat):List V:=(List.range (m+1)).map λj=>V.int ((f j:Nat):Int)
noncomputable def WaysAt (H:Hp) (d:Addr) (b m:Nat) (c:Nat->Nat->Nat) (P:Nat->Prop):Prop:=∃kvs:List (KO×V),H d=some (.ext (Zd5 d kvs))/\kvs.length<=b/\(∃l,Zak kvs none=some (.ref l)/\H l=some (.lst (wayL m λ_=>1)))/\∀p,P p->∃l,Zak kvs (some (p:Int))=some (.ref l)/\H l=some (.lst (wayL m (c p)))
noncomputable def sp_span_ways:SpT:=λK mg vs H Q E=>∃(t y:Addr) (T:List Int) (m:Nat),vs=[.ref t,.ref y,.int m]/\SqT K H t (T.map V.int)/\YoungAt H y T/\ZT T/\T.length<=12/\m<=12/\Zb6 K mg "from_below" H/\∀(d:Addr) (c:Nat->Nat->Nat) H',H d=none->Zg H H'->WaysIs T m c->WaysAt H' d 13 m c (λp=>p<T.length)->Q (.ref d) H'
noncomputable def sp_running_sums:SpT:=λK mg vs H Q E=>∃(a:Addr) (ns:List Int),vs=[.ref a]/\SqL K H a (ns.map V.int)/\ns.length<=100/\∀l H',Zg H H'->H' l=some (.lst ((ZG 0 ns).map V.int))->Q (.ref l) H'
noncomputable def cFi (mg:Str->Option Value):Addr:=clsAt mg "Filling"
noncomputable def FillAt (H:Hp) (x t:Addr) (T:List Int) (m:Nat) (c:Nat->Nat->Nat) (mg:Str->Option Value):Prop:=∃(dx d:Addr) (fs:List (Str×V)),H x=some (.ins (cFi mg) dx fs)/\fs.lookup (Str.ofString "tree")=some (.ref t)/\fs.lookup (Str.ofString "spans")=some (.ref d)/\fs.lookup (Str.ofString "how_many_rows")=none/\Zeo H t (T.map V.int)/\WaysAt H d 13 m c (λp=>p<T.length)
noncomputable def topC (T:List Int) (c:Nat->Nat->Nat):Nat:=if T=[]then 1 else c (T.idxOf (-1)) 0
noncomputable def sp_Filling_how_many_rows:SpT:=λK mg vs H Q E=>∃(x t:Addr) (T:List Int) (m:Nat) (c:Nat->Nat->Nat),vs=[.ref x]/\FillAt H x t T m c mg/\ZT T/\T.length<=12/\Q (.int ((topC T c:Nat):Int)) H
theorem way_step {ns T:List Int} (hT:Zl ns T) {p:Nat} (hp:p<T.length):(nth T p=-1/\way T p=[])\/∃q:Nat,nth T p=q/\q<T.length/\way T p=q::way T q:=by
 have e:=hT.1
 rcases ZbO hT (p:=p) (by omega)with z|⟨q,z,hq,_,_⟩
 ·exact .inl ⟨z,Zrr z⟩
 ·exact .inr ⟨q,z,by omega,ZaG hT (by omega) z⟩
theorem way_dp {ns T:List Int} (hT:Zl ns T) {a:Nat}:∀(k b:Nat),b<T.length->(way T b).length<=k->a∈way T b->(way T a).length<(way T b).length:=by
 intro k
 induction k with
 |zero =>
  intro b hb hk h
  have:way T b=[]:=List.length_eq_zero_iff.mp (by omega)
  rw[this]at h;cases h
 |succ k ih =>
  intro b hb hk h
  rcases way_step hT hb with⟨_,e⟩|⟨q,_,hq,e⟩
  ·rw[e]at h;cases h
  ·rw[e,Yq]at hk⊢
   rw[e]at h
   rcases Yl.mp h with rfl|h
   ·omega
   ·have:=ih q hq (by omega) h
    omega
theorem nd_few {L:List Nat}{n:Nat} (nd:L.Nodup) (h:∀q∈L,q<n):L.length<=n:=by
 have pm:L.Perm ((List.range n).filter λx=>decide (x∈L)):=(List.perm_ext_iff_of_nodup nd (List.nodup_range.filter _)).mpr λx=>by
  rw[YS]
  exact⟨λz=>⟨Yz.mpr (h x z),YL z⟩,λz=>Ja z.2⟩
 have l2:=Y9 (λx=>decide (x∈L)) (List.range n)
 rw[YZ,<-pm.length_eq]at l2
 exact l2
theorem way_nd {nsT T:List Int} (hT:Zl nsT T):∀k b,b<T.length->(way T b).length<=k->(way T b).Nodup/\b∉way T b:=by
 have e:=hT.1
 intro k
 induction k with
 |zero =>
  intro b hb hk
  have:way T b=[]:=List.length_eq_zero_iff.mp (by omega)
  rw[this];simp
 |succ k ih =>
  intro b hb hk
  rcases way_step hT hb with⟨_,z⟩|⟨q,_,hq,z⟩
  ·rw[z];simp
  ·rw[z,Yq]at hk
   obtain⟨h1,h2⟩:=ih q hq (by omega)
   have nb:b∉q::way T q:=λy=>by
    have:=way_dp hT _ b hb (Yd _) (z▸y)
    omega
   rw[z]
   exact⟨List.nodup_cons.mpr ⟨h2,h1⟩,nb⟩
theorem nthV {ns:List Int}{i:Nat} (h:i<ns.length):(ns.map V.int)[i]?=some (V.int (nth ns i)):=by
 unfold nth
 rw[YC,Yi h,Yr,Yi h];rfl
theorem dpI_elder {ns T:List Int} (hT:Zl ns T) {p q:Nat} (hp:p<ns.length) (h:nth T p=q):dpI T (p:Int)=dpI T (q:Int)+1:=by
 unfold dpI
 simp only[Y5,Zej,Yh]
 rw[ZaG hT hp h,Yq];omega
theorem nth_mem {ns:List Int}{i:Nat} (h:i<ns.length):nth ns i∈ns:=by
 unfold nth
 rw[Yr,Yi h];exact YY h
noncomputable def colS (a b:Nat->Nat) (m:Nat):Nat->Nat
 |0=>0
 |k+1=>colS a b m k+a (m-k)*b (m-1-k)
noncomputable def eachL (a b:Nat->Nat) (m:Nat):List Int:=(List.range m).map λk=>((a (m-k)*b (m-1-k):Nat):Int)
theorem each_sums (a b:Nat->Nat) (m:Nat):∀k,k<=m->ZG 0 ((eachL a b m).take k)=(List.range k).map (λi=>((colS a b m (i+1):Nat):Int))/\((eachL a b m).take k).sum=((colS a b m k:Nat):Int)
 |0,_=>by simp[ZG,colS]
 |k+1,h=>by
  obtain⟨h1,h2⟩:=each_sums a b m k (by omega)
  have e:(eachL a b m).take (k+1)=(eachL a b m).take k++[((a (m-k)*b (m-1-k):Nat):Int)]:=by
   rw[Y6]
   simp[eachL,show k<m by omega]
  rw[e,ZbU,h1,h2,List.sum_append,h2,YQ,YV]
  constructor
  ·simp[ZG,colS]
  ·simp[colS]
theorem wayL_of (a b:Nat->Nat) (m:Nat):(((0:Int)::ZG 0 (eachL a b m)).reverse).map V.int=wayL m λj=>colS a b m (m-j):=by
 have el:(eachL a b m).length=m:=by simp[eachL]
 have h1:=(each_sums a b m m (Yd _)).1
 rw[List.take_of_length_le (by omega)]at h1
 rw[h1]
 unfold wayL
 refine List.ext_getElem (by simp) λj j1 j2=>?_
 have hj:j<=m:=by simp at j2;omega
 rw[List.getElem_map,List.getElem_map,List.getElem_reverse,List.getElem_range]
 congr 1
 by_cases e:j=m
 ·subst e;simp[colS]
 ·have:((0:Int)::(List.range m).map λi=>((colS a b m (i+1):Nat):Int)).length-1-j=(m-j-1)+1:=by simp;omega
  simp only[this,List.getElem_cons_succ,List.getElem_map,List.getElem_range]
  rw[show m-j-1+1=m-j by omega]
noncomputable def WayP (T:List Int) (m:Nat) (c:Nat->Nat->Nat) (P:Nat->Prop) (p:Nat):Prop:=∃ah bh,AheadIs T p ah/\BehindIs T p bh/\(∀q,ah=some q->P q)/\(∀q,bh=some q->P q)/\∀j,j<=m->c p j=if j=m then 0 else cOf c ah (j+1)*cOf c bh j+c p (j+1)
noncomputable def setC (c:Nat->Nat->Nat) (v:Nat) (f:Nat->Nat):Nat->Nat->Nat:=λp=>if p=v then f else c p
theorem setC_same (c:Nat->Nat->Nat) (v:Nat) (f:Nat->Nat):setC c v f v=f:=Yc rfl
theorem setC_ne {c:Nat->Nat->Nat}{v p:Nat}{f:Nat->Nat} (h:p≠v):setC c v f p=c p:=Yb h
theorem cOf_set {c:Nat->Nat->Nat}{v:Nat}{f:Nat->Nat}{o:Option Nat} (h:∀q,o=some q->q≠v):cOf (setC c v f) o=cOf c o:=by
 cases o with
 |none=>rfl
 |some q=>funext j;show setC c v f q j=c q j;rw[setC_ne (h q rfl)]
theorem WayP.keep {T:List Int}{m:Nat}{c:Nat->Nat->Nat}{P P':Nat->Prop}{p v:Nat}{f:Nat->Nat} (h:WayP T m c P p) (hp:p≠v) (hv:¬ P v) (hs:∀q,P q->P' q):WayP T m (setC c v f) P' p:=by
 obtain⟨ah,bh,h1,h2,h3,h4,h5⟩:=h
 refine⟨ah,bh,h1,h2,λq e=>hs q (h3 q e),λq e=>hs q (h4 q e),λj hj=>?_⟩
 rw[cOf_set (v:=v) (λq e z=>hv (by rw[<-z];exact h3 q e)),cOf_set (v:=v) (λq e z=>hv (by rw[<-z];exact h4 q e)),setC_ne hp]
 exact h5 j hj
theorem WayP.new {T:List Int}{m:Nat}{c:Nat->Nat->Nat}{P P':Nat->Prop}{v:Nat}{ah bh:Option Nat} (h1:AheadIs T v ah) (h2:BehindIs T v bh) (h3:∀q,ah=some q->P q) (h4:∀q,bh=some q->P q) (hv:¬ P v) (hs:∀q,P q->P' q):WayP T m (setC c v λj=>colS (cOf c ah) (cOf c bh) m (m-j)) P' v:=by
 refine⟨ah,bh,h1,h2,λq e=>hs q (h3 q e),λq e=>hs q (h4 q e),λj hj=>?_⟩
 rw[cOf_set (v:=v) (λq e z=>hv (by rw[<-z];exact h3 q e)),cOf_set (v:=v) (λq e z=>hv (by rw[<-z];exact h4 q e)),setC_same]
 by_cases e:j=m
 ·subst e;simp[colS]
 ·rw[Yb e]
  show colS _ _ m (m-j)=_
  rw[show m-j=(m-(j+1))+1 by omega]
  show colS _ _ m (m-(j+1))+_=_
  rw[show m-(m-(j+1))=j+1 by omega,show m-1-(m-(j+1))=j by omega]
  omega
theorem kid_first {ns T ps:List Int} (hT:Zl ns T) (hpm:ps.Perm (nats (T.length:Int))) (hpw:ps.Pairwise λx y=>dpI T y<=dpI T x) {q v i:Nat} (hq:q<T.length) (h:nth T q=v) (hi:ps[i]?=some (v:Int)):∃k,k<i/\ps[k]?=some (q:Int):=by
 have e:=hT.1
 have dp:=dpI_elder hT (p:=q) (by omega) h
 have hm:(q:Int)∈ps:=hpm.mem_iff.mpr (YH.mpr ⟨q,Yz.mpr (by omega),rfl⟩)
 obtain⟨k,hk,ek⟩:=Y4 hm
 refine⟨k,?_,by rw[Yi hk,ek]⟩
 obtain⟨hi1,hi2⟩:=Yp.mp hi
 rcases Nat.lt_trichotomy k i with z|z|z
 ·exact z
 ·subst z
  rw[ek]at hi2
  have:q=v:=by omega
  subst this;omega
 ·have:=List.pairwise_iff_getElem.mp hpw i k hi1 hk z
  rw[hi2,ek]at this
  omega
theorem WaysAt.same {H H':Hp}{d:Addr}{b m:Nat}{c:Nat->Nat->Nat}{P:Nat->Prop} (h:WaysAt H d b m c P) (s:Zg H H'):WaysAt H' d b m c P:=by
 obtain⟨kvs,w1,w0,⟨l0,w2,w3⟩,w4⟩:=h
 exact⟨kvs,s _ _ w1,w0,⟨l0,w2,s _ _ w3⟩,λp hp=>let ⟨l,a,e⟩:=w4 p hp;⟨l,a,s _ _ e⟩⟩
theorem WaysAt.put {H:Hp}{d e:Addr}{b m v:Nat}{c:Nat->Nat->Nat}{P P':Nat->Prop}{f:Nat->Nat}{kvs:List (KO×V)} (hk:H d=some (.ext (Zd5 d kvs))) (hb:kvs.length<=b) (h0:∃l,Zak kvs none=some (.ref l)/\H l=some (.lst (wayL m λ_=>1))) (hP:∀p,P p->∃l,Zak kvs (some (p:Int))=some (.ref l)/\H l=some (.lst (wayL m (c p)))) (he:H e=some (.lst (wayL m f))) (hv:¬ P v) (hs:∀p,P' p->P p\/p=v):WaysAt (upd H d (.ext (Zd5 d (putK kvs (some (v:Int)) (.ref e))))) d (b+1) m (setC c v f) P':=by
 have nd:∀{l:Addr}{xs:List V},H l=some (.lst xs)->l≠d:=λ{l xs} h z=>by rw[z,hk]at h;cases h
 refine⟨_,Zc,Yf (ZbQ kvs (some (v:Int)) (.ref e)) (by omega),?_,λp hp=>?_⟩
 ·obtain⟨l,h1,h2⟩:=h0
  exact⟨l,by rw[Zcn,Yb (λz=>nomatch z)];exact h1,by rw[Zh (nd h2)];exact h2⟩
 ·by_cases z:p=v
  ·subst z
   exact⟨e,by rw[Zcn,Yc rfl],by rw[Zh (nd he),setC_same];exact he⟩
  ·rcases hs p hp with y|y
   ·obtain⟨l,h1,h2⟩:=hP p y
    exact⟨l,by rw[Zcn,Yb (λw=>z (by have:=Yy w;omega))];exact h1,by rw[Zh (nd h2),setC_ne z];exact h2⟩
   ·exact absurd y z
noncomputable def bitF:Nat->Nat
 |0=>1
 |h+1=>2*bitF h+4
theorem bitF_le:∀h,h<=13->bitF h<=100000:=by decide
theorem col_le {T:List Int}{m:Nat}{c:Nat->Nat->Nat}{p X:Nat}{ah bh:Option Nat} (h:∀j,j<=m->c p j=if j=m then 0 else cOf c ah (j+1)*cOf c bh j+c p (j+1)) (hX:∀j,j<m->cOf c ah (j+1)*cOf c bh j<=X):∀k,k<=m->c p (m-k)<=k*X
 |0,_=>by rw[h (m-0) (by omega),Yc (by omega)];exact Yn _
 |k+1,hk=>by
  have ih:=col_le (T:=T) h hX k (by omega)
  rw[h (m-(k+1)) (by omega),Yb (by omega),show m-(k+1)+1=m-k by omega,Nat.add_mul,Nat.one_mul]
  have:=hX (m-(k+1)) (by omega)
  rw[show m-(k+1)+1=m-k by omega]at this
  omega
theorem way_bits {ns T:List Int}{m:Nat}{c:Nat->Nat->Nat}{P:Nat->Prop} (hT:Zl ns T) (hm:m<=12) (hP:∀p,P p->p<T.length/\WayP T m c P p):∀h p,P p->T.length-(way T p).length<=h->∀j,j<=m->c p j<2 ^ bitF h:=by
 intro h
 induction h with
 |zero =>
  intro p hp hl
  have:=(hP p hp).1
  have hw:(way T p).length<=T.length:=Zgf _ _ _
  exfalso
  have e:=hT.1
  have h2:=way_nd hT _ p this (Yd _)
  have nd:(p::way T p).Nodup:=List.nodup_cons.mpr ⟨h2.2,h2.1⟩
  have:=nd_few (n:=T.length) nd (λq hq=>by
   rcases Yl.mp hq with z|z
   ·rw[z];omega
   ·have:=((Zbo hT (by omega)).mp z).1;omega)
  rw[Yq]at this
  omega
 |succ h ih =>
  intro p hp hl j hj
  obtain⟨hpT,ah,bh,hA,hB,hA2,hB2,heq⟩:=hP p hp
  have e:=hT.1
  have kid:∀o:Option Nat,(∀q,o=some q->P q/\nth T q=p/\q<T.length)->∀j,j<=m->cOf c o j<2 ^ bitF h:=λo ho j hj=>by
   cases o with
   |none =>
    show 1<2 ^ bitF h
    have:1<=bitF h:=by cases h<;>simp[bitF]<;>omega
    exact Nat.one_lt_two_pow (by omega)
   |some q =>
    obtain⟨a1,a2,a3⟩:=ho q rfl
    refine ih q a1 ?_ j hj
    rw[ZaG hT (by omega) a2,Yq];omega
  have k1:=kid ah (λq e=>by subst e;exact⟨hA2 q rfl,hA.2.2,hA.2.1⟩)
  have k2:=kid bh (λq e=>by subst e;exact⟨hB2 q rfl,hB.2.2,hB.2.1⟩)
  have:=col_le (T:=T) heq (X:=2 ^ bitF h*2 ^ bitF h) (λj hj=>Nat.mul_le_mul (YI (k1 (j+1) (by omega))) (YI (k2 j (by omega)))) (m-j) (by omega)
  rw[show m-(m-j)=j by omega]at this
  refine Yu this ?_
  rw[<-Nat.pow_add,show bitF (h+1)=(bitF h+bitF h)+4 by simp[bitF];omega,Nat.pow_add _ _ 4,Nat.mul_comm]
  exact Nat.mul_lt_mul_of_pos_left (by omega) (Nat.two_pow_pos _)
theorem mulBig {a b:Nat} (ha:a<2 ^ 100000) (hb:b<2 ^ 100000):IntMulOk (a:Int) (b:Int) :=
 ZhY (Yf ((intBits_le_iff (m:=100000)).mpr ha) (by decide)) (Yf ((intBits_le_iff (m:=100000)).mpr hb) (by decide))
theorem wayL_at {m j:Nat}{f:Nat->Nat} (h:j<=m):atI (wayL m f) (j:Int)=some (V.int ((f j:Nat):Int)):=Zbk (by simp[wayL,show j<m+1 by omega])
theorem top_in {ns T:List Int} (hT:Zl ns T):∀k p,p<T.length->(way T p).length<=k->(-1:Int)∈T:=by
 intro k
 induction k with
 |zero =>
  intro p hp hk
  rcases way_step hT hp with⟨z,_⟩|⟨q,_,_,z⟩
  ·rw[<-z];exact nth_mem hp
  ·rw[z]at hk;simp at hk
 |succ k ih =>
  intro p hp hk
  rcases way_step hT hp with⟨z,_⟩|⟨q,_,hq,z⟩
  ·rw[<-z];exact nth_mem hp
  ·exact ih q hq (by rw[z,Yq]at hk;omega)
theorem WaysAt.updI {H:Hp}{x C dx d:Addr}{fs:List (Str×V)}{o:HO}{b m:Nat}{c:Nat->Nat->Nat}{P:Nat->Prop} (h:WaysAt H d b m c P) (hx:H x=some (.ins C dx fs)):WaysAt (upd H x o) d b m c P:=by
 obtain⟨kvs,w1,w0,⟨l0,w2,w3⟩,w4⟩:=h
 have n1:d≠x:=λz=>by rw[z,hx]at w1;cases w1
 have n2:∀{l:Addr}{xs:List V},H l=some (.lst xs)->l≠x:=λ{l xs} e z=>by rw[z,hx]at e;cases e
 exact⟨kvs,by rw[Zh n1];exact w1,w0,⟨l0,w2,by rw[Zh (n2 w3)];exact w3⟩,λp hp=>let ⟨l,a,e⟩:=w4 p hp;⟨l,a,by rw[Zh (n2 e)];exact e⟩⟩
theorem YoungAt.updI {H:Hp}{x C dx y:Addr}{fs:List (Str×V)}{o:HO}{T:List Int} (h:YoungAt H y T) (hx:H x=some (.ins C dx fs)):YoungAt (upd H x o) y T:=by
 obtain⟨as,h1,h2,h3⟩:=h
 have n2:∀{l:Addr}{xs:List V},H l=some (.lst xs)->l≠x:=λ{l xs} e z=>by rw[z,hx]at e;cases e
 exact⟨as,by rw[Zh (n2 h1)];exact h1,h2,λv a e=>let ⟨ah,bh,p1,p2,p3⟩:=h3 v a e;⟨ah,bh,p1,p2,by rw[Zh (n2 p3)];exact p3⟩⟩
theorem wayLz_at {m j:Nat}{f:Nat->Nat}{z:V} (h:j<=m):atI (wayL m f++[z]) (j:Int)=some (V.int ((f j:Nat):Int)):=Zbk (by rw[YU (by simp[wayL];omega)];simp[wayL,show j<m+1 by omega])
theorem ahead_one {ns T:List Int} (hT:Zl ns T) {v:Nat}{a b:Option Nat} (h1:AheadIs T v a) (h2:AheadIs T v b):a=b:=by
 have e:=hT.1
 cases a with
 |none =>
  cases b with
  |none=>rfl
  |some q=>exact absurd h2.2.2 (h1 q h2.1 h2.2.1)
 |some p =>
  cases b with
  |none=>exact absurd h1.2.2 (h2 p h1.1 h1.2.1)
  |some q=>rw[ZpD hT (by have:=h1.2.1;omega) (by have:=h2.2.1;omega) h1.2.2 h2.2.2 h1.1 h2.1]
theorem behind_one {ns T:List Int} (hT:Zl ns T) {v:Nat}{a b:Option Nat} (h1:BehindIs T v a) (h2:BehindIs T v b):a=b:=by
 have e:=hT.1
 cases a with
 |none =>
  cases b with
  |none=>rfl
  |some q=>exact absurd h2.2.2 (h1 q h2.1 h2.2.1)
 |some p =>
  cases b with
  |none=>exact absurd h1.2.2 (h2 p h1.1 h1.2.1)
  |some q=>rw[ZnP hT (by have:=h1.2.1;omega) (by have:=h2.2.1;omega) h1.2.2 h2.2.2 h1.1 h2.1]
theorem ways_one {ns T:List Int}{m:Nat}{c d:Nat->Nat->Nat} (hT:Zl ns T) (h1:WaysIs T m c) (h2:WaysIs T m d):∀h p,p<T.length->T.length-(way T p).length<=h->∀j,j<=m->c p j=d p j:=by
 have e:=hT.1
 intro h
 induction h with
 |zero =>
  intro p hp hl
  exfalso
  have h3:=way_nd hT _ p hp (Yd _)
  have nd:(p::way T p).Nodup:=List.nodup_cons.mpr ⟨h3.2,h3.1⟩
  have:=nd_few (n:=T.length) nd (λq hq=>by
   rcases Yl.mp hq with z|z
   ·rw[z];omega
   ·have:=((Zbo hT (by omega)).mp z).1;omega)
  rw[Yq]at this
  omega
 |succ h ih =>
  intro p hp hl
  obtain⟨ah,bh,a1,a2,a3⟩:=h1 p hp
  obtain⟨ah',bh',b1,b2,b3⟩:=h2 p hp
  obtain rfl:=ahead_one hT a1 b1
  obtain rfl:=behind_one hT a2 b2
  have kid:∀o:Option Nat,(∀q,o=some q->nth T q=p/\q<T.length)->∀j,j<=m->cOf c o j=cOf d o j:=λo ho j hj=>by
   cases o with
   |none=>rfl
   |some q =>
    obtain⟨x1,x2⟩:=ho q rfl
    refine ih q x2 ?_ j hj
    rw[ZaG hT (by omega) x1,Yq];omega
  have k1:=kid ah (λq e=>by subst e;exact⟨a1.2.2,a1.2.1⟩)
  have k2:=kid bh (λq e=>by subst e;exact⟨a2.2.2,a2.2.1⟩)
  have all:∀k,k<=m->c p (m-k)=d p (m-k):=by
   intro k
   induction k with
   |zero=>intro _;rw[a3 _ (by omega),b3 _ (by omega),Yc (by omega),Yc (by omega)]
   |succ k ihk =>
    intro hk
    rw[a3 _ (by omega),b3 _ (by omega),Yb (by omega),Yb (by omega),show m-(k+1)+1=m-k by omega,ihk (by omega),k1 (m-k) (by omega),k2 (m-(k+1)) (by omega)]
  intro j hj
  have:=all (m-j) (by omega)
  rw[show m-(m-j)=j by omega]at this
  exact this
theorem top_one {ns T:List Int}{m:Nat}{c d:Nat->Nat->Nat} (hT:Zl ns T) (h1:WaysIs T m c) (h2:WaysIs T m d):topC T c=topC T d:=by
 unfold topC
 by_cases z:T=[]
 ·rw[Yc z,Yc z]
 ·rw[Yb z,Yb z]
  have hm1:=top_in hT _ 0 (List.length_pos_iff.mpr z) (Yd _)
  exact ways_one hT h1 h2 _ _ (List.idxOf_lt_length_of_mem hm1) (Yd _) 0 (Yn _)
noncomputable def kidA (T:List Int) (p:Nat):Option Nat:=(List.range T.length).find? λc=>decide (c<p)&&(nth T c==(p:Int))
noncomputable def kidB (T:List Int) (p:Nat):Option Nat:=(List.range T.length).find? λc=>decide (p<c)&&(nth T c==(p:Int))
theorem kidA_is (T:List Int) (p:Nat):AheadIs T p (kidA T p):=by
 unfold kidA
 cases e:(List.range T.length).find? λc=>decide (c<p)&&(nth T c==(p:Int))with
 |none =>
  intro c c1 c2 z
  have:=List.find?_eq_none.mp e c (Yz.mpr c2)
  simp[c1,z]at this
 |some c =>
  have h1:=List.find?_some e
  have h2:=Yz.mp (List.mem_of_find?_eq_some e)
  simp at h1
  exact⟨h1.1,h2,h1.2⟩
theorem kidB_is (T:List Int) (p:Nat):BehindIs T p (kidB T p):=by
 unfold kidB
 cases e:(List.range T.length).find? λc=>decide (p<c)&&(nth T c==(p:Int))with
 |none =>
  intro c c1 c2 z
  have:=List.find?_eq_none.mp e c (Yz.mpr c2)
  simp[c1,z]at this
 |some c =>
  have h1:=List.find?_some e
  have h2:=Yz.mp (List.mem_of_find?_eq_some e)
  simp at h1
  exact⟨h1.1,h2,h1.2⟩
noncomputable def cF (T:List Int) (m:Nat):Nat->Nat->Nat->Nat
 |0,_,_=>0
 |h+1,p,j=>colS (cOf (cF T m h) (kidA T p)) (cOf (cF T m h) (kidB T p)) m (m-j)
theorem cF_fuel {ns T:List Int} (hT:Zl ns T) (m:Nat):∀h p,p<T.length->T.length-(way T p).length<=h->cF T m (h+1) p=cF T m h p:=by
 have e:=hT.1
 intro h
 induction h with
 |zero =>
  intro p hp hl
  exfalso
  have h3:=way_nd hT _ p hp (Yd _)
  have nd:(p::way T p).Nodup:=List.nodup_cons.mpr ⟨h3.2,h3.1⟩
  have:=nd_few (n:=T.length) nd (λq hq=>by
   rcases Yl.mp hq with z|z
   ·rw[z];omega
   ·have:=((Zbo hT (by omega)).mp z).1;omega)
  rw[Yq]at this
  omega
 |succ h ih =>
  intro p hp hl
  have kid:∀o:Option Nat,(∀q,o=some q->nth T q=p/\q<T.length)->cOf (cF T m (h+1)) o=cOf (cF T m h) o:=λo ho=>by
   cases o with
   |none=>rfl
   |some q =>
    obtain⟨x1,x2⟩:=ho q rfl
    have:=ih q x2 (by rw[ZaG hT (by omega) x1,Yq];omega)
    funext j
    exact congrFun this j
  have k1:=kid (kidA T p) (λq e=>by have:=kidA_is T p;rw[e]at this;exact⟨this.2.2,this.2.1⟩)
  have k2:=kid (kidB T p) (λq e=>by have:=kidB_is T p;rw[e]at this;exact⟨this.2.2,this.2.1⟩)
  funext j
  show colS (cOf (cF T m (h+1)) _) (cOf (cF T m (h+1)) _) m _=colS (cOf (cF T m h) _) (cOf (cF T m h) _) m _
  rw[k1,k2]
theorem cF_ways {ns T:List Int} (hT:Zl ns T) (m:Nat):WaysIs T m (cF T m T.length):=λp hp=>by
 refine⟨kidA T p,kidB T p,kidA_is T p,kidB_is T p,λj hj=>?_⟩
 have ef:=cF_fuel hT m T.length p hp (by omega)
 have e1:∀j,cF T m T.length p j=colS (cOf (cF T m T.length) (kidA T p)) (cOf (cF T m T.length) (kidB T p)) m (m-j):=λj=>by
  conv=>lhs;rw[<-ef]
  rfl
 rw[e1 j,e1 (j+1)]
 by_cases z:j=m
 ·subst z;simp[colS]
 ·rw[Yb z,show m-j=(m-(j+1))+1 by omega]
  show colS _ _ m (m-(j+1))+_=_
  rw[show m-(m-(j+1))=j+1 by omega,show m-1-(m-(j+1))=j by omega]
  omega
noncomputable def sumTo (f:Nat->Nat):Nat->Nat
 |0=>0
 |k+1=>sumTo f k+f k
theorem Zch {f g:Nat->Nat}:∀k,(∀i,i<k->f i=g i)->sumTo f k=sumTo g k
 |0,_=>rfl
 |k+1,h=>by
  show sumTo f k+f k=sumTo g k+g k
  rw[Zch k λi hi=>h i (by omega),h k (by omega)]
theorem Zms {g al C:Nat->Nat}{m:Nat} (hC:∀j,j<m->C j=al j+C (j+1)) (h0:C m=0):sumTo (λz=>sumTo g z*al z) m=sumTo (λy=>g y*C (y+1)) m:=by
 have key:∀k,k<=m->sumTo (λz=>sumTo g z*al z) k+sumTo g k*C k=sumTo (λy=>g y*C (y+1)) k:=by
  intro k
  induction k with
  |zero=>intro _;simp[sumTo]
  |succ k ih =>
   intro hk
   have h1:=ih (by omega)
   rw[hC k (by omega),Nat.mul_add]at h1
   show sumTo (λz=>sumTo g z*al z) k+sumTo g k*al k+(sumTo g k+g k)*C (k+1)=sumTo (λy=>g y*C (y+1)) k+g k*C (k+1)
   rw[<-h1,Nat.add_mul]
   omega
 have:=key m (Yd _)
 rw[h0,Nat.mul_zero,Nat.add_zero]at this
 exact this
theorem Ziz {al C:Nat->Nat}{m x N:Nat} (hx:x<=m) (hC:∀j,j<m->C j=al j+C (j+1)) (h0:C m=0):sumTo (λy=>(if y<x then 0 else N)*al y) m=N*C x:=by
 have key:∀k,k<=m->sumTo (λy=>(if y<x then 0 else N)*al y) k+N*C (max k x)=N*C x:=by
  intro k
  induction k with
  |zero=>intro _;simp[sumTo]
  |succ k ih =>
   intro hk
   have h1:=ih (by omega)
   show sumTo (λy=>(if y<x then 0 else N)*al y) k+(if k<x then 0 else N)*al k+N*C (max (k+1) x)=N*C x
   by_cases z:k<x
   ·rw[Yc z,Nat.zero_mul,Nat.add_zero,show max (k+1) x=max k x by omega];exact h1
   ·rw[show max k x=k by omega,hC k (by omega),Nat.mul_add]at h1
    rw[Yb z,show max (k+1) x=k+1 by omega]
    omega
 have:=key m (Yd _)
 rw[show max m x=m by omega,h0,Nat.mul_zero,Nat.add_zero]at this
 exact this
noncomputable def OF (T:List Int) (c:Nat->Nat->Nat) (f:Nat->Nat):Nat->Nat->Nat->Nat
 |0,_,_=>0
 |h+1,p,x=>if nth T p=-1 then 1 else if (p:Int)<nth T p then sumTo (λy=>OF T c f h (nth T p).toNat y*cOf c (kidB T (nth T p).toNat) y) x else if x<f (nth T p).toNat then 0 else OF T c f h (nth T p).toNat (f (nth T p).toNat)
theorem ZrF {ns T:List Int} (hT:Zl ns T) (c:Nat->Nat->Nat) (f:Nat->Nat):∀h p,p<T.length->(way T p).length<h->OF T c f (h+1) p=OF T c f h p:=by
 have e:=hT.1
 intro h
 induction h with
 |zero=>intro p _ z;omega
 |succ h ih =>
  intro p hp hl
  funext x
  show(if _ then _ else _)=(if _ then _ else _)
  rcases way_step hT hp with⟨z,_⟩|⟨q,z,hq,zw⟩
  ·rw[Yc z,Yc z]
  ·have n1:nth T p≠-1:=by omega
   have i1:=ih q hq (by rw[zw,Yq]at hl;omega)
   rw[Yb n1,Yb n1,z,show((q:Nat):Int).toNat=q by omega,i1]
noncomputable def oW (T:List Int) (c:Nat->Nat->Nat) (f:Nat->Nat) (p x:Nat):Nat:=OF T c f (T.length+1) p x
noncomputable def nW (T:List Int) (c:Nat->Nat->Nat) (f:Nat->Nat) (p x:Nat):Nat:=oW T c f p x*cOf c (kidB T p) x
theorem Zmt {ns T:List Int} (hT:Zl ns T) {p:Nat} (hp:p<T.length):(way T p).length<T.length:=by
 have e:=hT.1
 have h3:=way_nd hT _ p hp (Yd _)
 have nd:(p::way T p).Nodup:=List.nodup_cons.mpr ⟨h3.2,h3.1⟩
 have:=nd_few (n:=T.length) nd (λq hq=>by
  rcases Yl.mp hq with z|z
  ·rw[z];omega
  ·have:=((Zbo hT (by omega)).mp z).1;omega)
 rw[Yq]at this
 omega
theorem Zkk {ns T:List Int} (hT:Zl ns T) (c:Nat->Nat->Nat) (f:Nat->Nat) {p:Nat} (hp:p<T.length) (x:Nat):oW T c f p x=if nth T p=-1 then 1 else if (p:Int)<nth T p then sumTo (nW T c f (nth T p).toNat) x else if x<f (nth T p).toNat then 0 else oW T c f (nth T p).toNat (f (nth T p).toNat):=by
 show(if _ then _ else _)=(if _ then _ else _)
 rcases way_step hT hp with⟨z,_⟩|⟨q,z,hq,zw⟩
 ·rw[Yc z,Yc z]
 ·have n1:nth T p≠-1:=by omega
  have i1:=ZrF hT c f T.length q hq (Zmt hT hq)
  unfold nW oW
  rw[Yb n1,Yb n1,z,show((q:Nat):Int).toNat=q by omega,<-i1]
theorem ZcY {ns T:List Int} (hT:Zl ns T) {c:Nat->Nat->Nat}{f:Nat->Nat}{p x:Nat} (hp:p<T.length) (h:nth T p=-1):oW T c f p x=1:=by
 rw[Zkk hT c f hp,Yc h]
theorem Zfq {ns T:List Int} (hT:Zl ns T) {c:Nat->Nat->Nat}{f:Nat->Nat}{p x e:Nat} (hp:p<T.length) (h:nth T p=e) (hl:p<e):oW T c f p x=sumTo (nW T c f e) x:=by
 rw[Zkk hT c f hp,Yb (by omega),Yc (by omega),h,show((e:Nat):Int).toNat=e by omega]
theorem Zco {ns T:List Int} (hT:Zl ns T) {c:Nat->Nat->Nat}{f:Nat->Nat}{p x e:Nat} (hp:p<T.length) (h:nth T p=e) (hl:e<=p):oW T c f p x=if x<f e then 0 else oW T c f e (f e):=by
 rw[Zkk hT c f hp,Yb (by omega),Yb (by omega),h,show((e:Nat):Int).toNat=e by omega]
noncomputable def Zgp (T:List Int) (p k:Nat):Prop:=∀q∈p::way T p,∀e:Nat,nth T q=e->e<q->e<k
theorem Zgp.mono {T:List Int}{p k k':Nat} (h:Zgp T p k) (hk:k<=k'):Zgp T p k':=λq hq e he hl=>Ys (h q hq e he hl) hk
theorem Zgp.up {ns T:List Int} (hT:Zl ns T) {p e k:Nat} (hp:p<T.length) (he:nth T p=e) (h:Zgp T p k):Zgp T e k:=λq hq=>h q (by
 have:=hT.1
 rw[ZaG hT (by omega) he];exact YK _ hq)
theorem Zlk {ns T:List Int} (hT:Zl ns T) {c:Nat->Nat->Nat}{f g:Nat->Nat}{k:Nat} (hf:∀i,i<k->f i=g i):∀d p,p<T.length->(way T p).length<=d->Zgp T p k->oW T c f p=oW T c g p:=by
 have eT:=hT.1
 intro d
 induction d with
 |zero =>
  intro p hp hd _
  funext x
  rcases way_step hT hp with⟨z,_⟩|⟨q,z,hq,zw⟩
  ·rw[ZcY hT hp z,ZcY hT hp z]
  ·rw[zw]at hd;simp at hd
 |succ d ih =>
  intro p hp hd hu
  funext x
  rcases way_step hT hp with⟨z,_⟩|⟨q,z,hq,zw⟩
  ·rw[ZcY hT hp z,ZcY hT hp z]
  ·have i1:=ih q hq (by rw[zw,Yq]at hd;omega) (hu.up hT hp z)
   by_cases hl:p<q
   ·rw[Zfq hT hp z hl,Zfq hT hp z hl]
    exact Zch x λy _=>by unfold nW;rw[i1]
   ·have npq:q≠p:=λy=>by
     subst y
     have:=(way_nd hT _ q hp (Yd _)).2
     rw[zw]at this
     exact this (by simp)
    have:=hu p (by simp) q z (by omega)
    rw[Zco hT hp z (by omega),Zco hT hp z (by omega),hf q this,i1]
theorem ZiA {ns T:List Int} (hT:Zl ns T) {c:Nat->Nat->Nat}{f g:Nat->Nat}{k p:Nat} (hf:∀i,i<k->f i=g i) (hp:p<T.length) (hu:Zgp T p k):nW T c f p=nW T c g p:=by
 funext x;unfold nW;rw[Zlk hT hf _ p hp (Yd _) hu]
theorem Zh0 {ns T:List Int} (hT:Zl ns T) {k:Nat} (hk:k<T.length):Zgp T k k:=λq hq e he hl=>by
 have eT:=hT.1
 rcases Yl.mp hq with rfl|hq
 ·exact hl
 ·obtain⟨h1,h2⟩:=(Zbo hT (by omega)).mp hq
  rcases Nat.lt_or_ge e k with z|z
  ·exact z
  ·exfalso
   obtain⟨a1,a2,a3,a4⟩:=Zdl hT h1 he hl
   have:=Zgj (f:=nth ns) (n:=ns.length) h1
   rcases h2 with⟨y1,y2⟩|⟨y1,y2⟩
   ·omega
   ·have hO:Over (nth ns) e q:=((Zbo hT h1).mp (by rw[ZaG hT h1 he];simp)).2
    rcases hO with⟨w1,w2⟩|⟨w1,w2⟩
    ·rcases Nat.eq_or_lt_of_le z with rfl|z
     ·have:=y2 k (Yd _) y1
      have:=w2 q (by omega) (Yd _)
      omega
     ·have h3:=y2 e (by omega) hl
      have h4:=w2 q (by omega) (Yd _)
      omega
    ·omega
noncomputable def abV (T:List Int) (m:Nat) (f:Nat->Nat) (k:Nat):Nat:=match kidA T k with|none=>m|some a=>f a
noncomputable def vW (T:List Int) (m:Nat) (c:Nat->Nat->Nat) (f:Nat->Nat) (k:Nat):Nat:=if k=T.length then 1 else sumTo (nW T c f k) (abV T m f k)
noncomputable def Zbe (T:List Int) (m:Nat) (f:Nat->Nat) (k:Nat):Prop:=∀q,q<k->f q<m/\∀e:Nat,nth T q=e->(e<q->f e<=f q)/\(q<e->e<k->f e<f q)
theorem ZnS {T:List Int}{p:Nat} (h:kidA T p=none):∀c,c<p->c<T.length->nth T c≠p:=by
 have:=kidA_is T p;rw[h]at this;exact this
theorem ZnT {T:List Int}{p:Nat} (h:kidB T p=none):∀c,p<c->c<T.length->nth T c≠p:=by
 have:=kidB_is T p;rw[h]at this;exact this
theorem ZbC {T:List Int}{p a:Nat} (h:kidA T p=some a):a<p/\a<T.length/\nth T a=p:=by
 have:=kidA_is T p;rw[h]at this;exact this
theorem ZgX {T:List Int}{p a:Nat} (h:kidB T p=some a):p<a/\a<T.length/\nth T a=p:=by
 have:=kidB_is T p;rw[h]at this;exact this
theorem Zkl {ns T:List Int}{m:Nat}{c:Nat->Nat->Nat} (hT:Zl ns T) (hW:WaysIs T m c) {p:Nat} (hp:p<T.length):(∀j,j<m->c p j=cOf c (kidA T p) (j+1)*cOf c (kidB T p) j+c p (j+1))/\c p m=0:=by
 obtain⟨ah,bh,h1,h2,h3⟩:=hW p hp
 obtain rfl:=ahead_one hT h1 (kidA_is T p)
 obtain rfl:=behind_one hT h2 (kidB_is T p)
 exact⟨λj hj=>by rw[h3 j (by omega),Yb (by omega)],by rw[h3 m (Yd _),Yc rfl]⟩
theorem ZrG {ns T:List Int} (hT:Zl ns T) {p:Nat} (hp:p<T.length) (h:kidA T p=none):ZaX (nth ns) p=(p:Int)-1:=by
 have eT:=hT.1
 obtain⟨c1,_,c3,_⟩:=Zaz hT (p:=p) (by omega)
 have:¬ 0<Zix (nth ns) p:=λz=>by
  obtain⟨q,q1,q2⟩:=ZpE hT (by omega) z
  exact ZnS h q q1 (by omega) q2
 omega
theorem ZpL {ns T:List Int} (hT:Zl ns T) {p:Nat} (hp:p<T.length) (h:kidB T p=none):Za1 (nth ns) ns.length p=(p:Int)+1:=by
 have eT:=hT.1
 obtain⟨_,c1,_,c3⟩:=Zaz hT (p:=p) (by omega)
 have:¬ 0<Ziy (nth ns) ns.length p:=λz=>by
  obtain⟨q,q1,q2,q3⟩:=ZnQ hT (by omega) z
  exact ZnT h q q1 (by omega) q3
 omega
theorem Zkm {ns T:List Int} (hT:Zl ns T) {p:Nat} (hp:p<T.length) (h:nth T p=-1):ZaX (nth ns) p=-1/\Za1 (nth ns) ns.length p=ns.length:=by
 have eT:=hT.1
 have hE:=hT.2 p (by omega)
 rw[show T.getD p 0=-1 from h]at hE
 rcases hE with⟨z1,z2,_⟩|⟨x,_,_,z⟩|⟨r,_,_,z⟩|⟨x,r,_,_,z⟩
 ·exact⟨ZcH z1,Zb5 z2⟩
 ·omega
 ·omega
 ·split at z<;>omega
theorem down {ns T:List Int}{m:Nat}{c:Nat->Nat->Nat} (hT:Zl ns T) (hW:WaysIs T m c) (f:Nat->Nat) {k:Nat} (hk:k<T.length):∀d p,p<T.length->p<=d->ZaX (nth ns) p=(k:Int)-1->sumTo (λy=>oW T c f p y*(cOf c (kidA T p) (y+1)*cOf c (kidB T p) y)) m=vW T m c f k:=by
 have eT:=hT.1
 intro d
 induction d with
 |zero =>
  intro p hp hd hF
  have b:=Zgj (f:=nth ns) (n:=ns.length) (p:=p) (by omega)
  have e0:p=k:=by omega
  subst e0
  cases hA:kidA T p with
  |some a=>have:=(ZbC hA).1;omega
  |none =>
   unfold vW abV
   rw[Yb (by omega),hA]
   exact Zch m λy _=>by unfold nW;simp[cOf]
 |succ d ih =>
  intro p hp hd hF
  cases hA:kidA T p with
  |none =>
   have:=ZrG hT hp hA
   have e0:p=k:=by omega
   subst e0
   unfold vW abV
   rw[Yb (by omega),hA]
   exact Zch m λy _=>by unfold nW;simp[cOf]
  |some a =>
   obtain⟨a1,a2,a3⟩:=ZbC hA
   obtain⟨_,b1,_⟩:=Zgn hT (q:=a) (by omega) a3 a1
   rw[<-ih a a2 (by omega) (by rw[b1,hF])]
   have e1:(λy=>oW T c f a y*(cOf c (kidA T a) (y+1)*cOf c (kidB T a) y))=λy=>sumTo (nW T c f p) y*(cOf c (kidA T a) (y+1)*cOf c (kidB T a) y):=by
    funext y;rw[Zfq hT a2 a3 a1]
   obtain⟨w1,w2⟩:=Zkl hT hW a2
   rw[e1,Zms (C:=c a) w1 w2]
   refine Zch m λy _=>?_
   show oW T c f p y*(c a (y+1)*cOf c (kidB T p) y)=oW T c f p y*cOf c (kidB T p) y*c a (y+1)
   rw[Nat.mul_assoc,Nat.mul_comm (c a (y+1))]
theorem upward {ns T:List Int}{m:Nat}{c:Nat->Nat->Nat} (hT:Zl ns T) {f:Nat->Nat}{k:Nat} (hk:k<T.length) (hf:Zbe T m f (k+1)):∀d p,p<=k->(way T p).length<=d->Za1 (nth ns) ns.length p=(k:Int)+1->oW T c f p (f p)=vW T m c f (k+1):=by
 have eT:=hT.1
 intro d
 induction d with
 |zero =>
  intro p hp hd hF
  rcases way_step hT (p:=p) (by omega)with⟨z,_⟩|⟨q,z,hq,zw⟩
  ·have:=(Zkm hT (p:=p) (by omega) z).2
   rw[ZcY hT (by omega) z]
   unfold vW;rw[Yc (by omega)]
  ·rw[zw]at hd;simp at hd
 |succ d ih =>
  intro p hp hd hF
  rcases way_step hT (p:=p) (by omega)with⟨z,_⟩|⟨q,z,hq,zw⟩
  ·have:=(Zkm hT (p:=p) (by omega) z).2
   rw[ZcY hT (by omega) z]
   unfold vW;rw[Yc (by omega)]
  ·by_cases hl:p<q
   ·obtain⟨_,_,b2,_⟩:=Zgn hT (q:=p) (by omega) z hl
    have e1:q=k+1:=by omega
    subst e1
    rw[Zfq hT (by omega) z hl]
    unfold vW abV
    have:kidA T (k+1)=some p:=ahead_one hT (kidA_is T (k+1)) (show AheadIs T (k+1) (some p)from⟨hl,by omega,z⟩)
    rw[Yb (by omega),this]
   ·have npq:q≠p:=λy=>by
     subst y
     have:=(way_nd hT _ q (by omega) (Yd _)).2
     rw[zw]at this
     exact this (by simp)
    obtain⟨_,b2,_⟩:=Zdl hT (q:=p) (by omega) z (by omega)
    have h1:=((hf p (by omega)).2 q z).1 (by omega)
    rw[Zco hT (by omega) z (by omega),Yb (by omega)]
    exact ih q (by omega) (by rw[zw,Yq]at hd;omega) (by rw[<-b2,hF])
theorem ZrH {ns T:List Int}{m:Nat}{c:Nat->Nat->Nat} (hT:Zl ns T) (hW:WaysIs T m c) {f:Nat->Nat}{k:Nat} (hk:k<T.length) (hf:Zbe T m f (k+1)):vW T m c f (k+1)=nW T c f k (f k):=by
 have eT:=hT.1
 have hm:=(hf k (by omega)).1
 unfold nW
 cases hB:kidB T k with
 |none =>
  rw[show cOf c none (f k)=1 from rfl,Nat.mul_one]
  exact(upward hT hk hf _ k (Yd _) (Yd _) (ZpL hT hk hB)).symm
 |some b =>
  obtain⟨b1,b2,b3⟩:=ZgX hB
  obtain⟨f1,_⟩:=Zdl hT (q:=b) (by omega) b3 b1
  rw[<-down hT hW f (k:=k+1) (by omega) b b b2 (Yd _) (by rw[f1];omega)]
  obtain⟨w1,w2⟩:=Zkl hT hW b2
  have e1:(λy=>oW T c f b y*(cOf c (kidA T b) (y+1)*cOf c (kidB T b) y))=λy=>(if y<f k then 0 else oW T c f k (f k))*(cOf c (kidA T b) (y+1)*cOf c (kidB T b) y):=by
   funext y;rw[Zco hT b2 b3 (by omega)]
  rw[e1,Ziz (C:=c b) (by omega) w1 w2]
  rfl
theorem ZrI {ns T:List Int}{m:Nat}{c:Nat->Nat->Nat} (hT:Zl ns T) (hW:WaysIs T m c) (f:Nat->Nat):vW T m c f 0=topC T c:=by
 have eT:=hT.1
 unfold topC
 by_cases z:T=[]
 ·rw[Yc z];unfold vW;rw[Yc (by rw[z];rfl)]
 ·have h0:=List.length_pos_iff.mpr z
  have hm1:=top_in hT _ 0 h0 (Yd _)
  have ht:=List.idxOf_lt_length_of_mem hm1
  have ht2:nth T (T.idxOf (-1))=-1:=by
   unfold nth
   rw[Yr,Yi ht]
   simp
  rw[Yb z]
  have f1:=(Zkm hT ht ht2).1
  rw[<-down hT hW f h0 _ _ ht (Yd _) (by rw[f1];rfl)]
  obtain⟨w1,w2⟩:=Zkl hT hW ht
  have:=Ziz (x:=0) (N:=1) (Yn m) w1 w2
  rw[Nat.one_mul]at this
  rw[<-this]
  refine Zch m λy _=>?_
  rw[ZcY hT ht ht2,Yb (by omega)]
noncomputable def rkF (T:List Int) (c:Nat->Nat->Nat) (f:Nat->Nat):Nat->Nat
 |0=>0
 |k+1=>rkF T c f k+sumTo (nW T c f k) (f k)
theorem Zbe.le {T:List Int}{m:Nat}{f:Nat->Nat}{k j:Nat} (h:Zbe T m f k) (hj:j<=k):Zbe T m f j:=λq hq=>⟨(h q (by omega)).1,λe he=>⟨((h q (by omega)).2 e he).1,λh1 h2=>((h q (by omega)).2 e he).2 h1 (by omega)⟩⟩
theorem Zbe.ab {ns T:List Int} (hT:Zl ns T) {m:Nat}{f:Nat->Nat}{k:Nat} (h:Zbe T m f (k+1)):f k<abV T m f k:=by
 unfold abV
 cases hA:kidA T k with
 |none=>exact(h k (by omega)).1
 |some a =>
  obtain⟨a1,a2,a3⟩:=ZbC hA
  exact((h a (by omega)).2 k a3).2 a1 (by omega)
theorem ZjU {ns T:List Int} (hT:Zl ns T) {c:Nat->Nat->Nat}{f g:Nat->Nat}:∀k,k<=T.length->(∀i,i<k->f i=g i)->rkF T c f k=rkF T c g k
 |0,_,_=>rfl
 |k+1,hk,h=>by
  show rkF T c f k+sumTo (nW T c f k) (f k)=rkF T c g k+sumTo (nW T c g k) (g k)
  rw[ZjU hT k (by omega) λi hi=>h i (by omega),h k (by omega),ZiA hT (λi hi=>h i (by omega)) (by omega) (Zh0 hT (by omega))]
theorem Zbe.more {ns T:List Int} (hT:Zl ns T) {m:Nat}{c:Nat->Nat->Nat}{f:Nat->Nat}{k:Nat} (hk:k<T.length) (h:Zbe T m f k) (hx:f k<abV T m f k) (hp:0<nW T c f k (f k)):Zbe T m f (k+1):=by
 have hab:abV T m f k<=m:=by
  unfold abV
  cases hA:kidA T k with
  |none=>exact Yd _
  |some a=>exact YI (h a (ZbC hA).1).1
 intro q hq
 by_cases z:q=k
 ·subst z
  refine⟨by omega,λe he=>⟨λh1=>?_,λh1 h2=>by omega⟩⟩
  rcases Nat.lt_or_ge (f q) (f e)with y|y
  ·exfalso
   unfold nW at hp
   rw[Zco hT hk he (by omega),Yc y]at hp
   omega
  ·exact y
 ·obtain⟨h1,h2⟩:=h q (by omega)
  refine⟨h1,λe he=>⟨(h2 e he).1,λh3 h4=>?_⟩⟩
  by_cases y:e=k
  ·subst y
   have:kidA T e=some q:=ahead_one hT (kidA_is T e) (show AheadIs T e (some q)from⟨h3,by omega,he⟩)
   unfold abV at hx
   rw[this]at hx
   exact hx
  ·exact(h2 e he).2 h3 (by omega)
noncomputable def fnR (r:List Nat):Nat->Nat:=λi=>r.getD i 0
noncomputable def ZaY (m:Nat) (g:Nat->Nat):List V:=(List.range m).map λj=>V.int ((g j:Nat):Int)
noncomputable def ZbR (r:List Nat):List V:=r.map λi=>V.int ((i:Nat):Int)
noncomputable def cntK (kvs:List (Key×V)):Nat->Nat
 |0=>0
 |n+1=>cntK kvs n+if (Zak kvs (.inl (n:Int))).isSome then 1 else 0
theorem Zm2 (kvs:List (Key×V)):∀n,cntK kvs n<=n
 |0=>Yd _
 |n+1=>by
  have:=Zm2 kvs n
  show cntK kvs n+(if _ then 1 else 0)<=n+1
  split<;>omega
theorem ZiB {kvs kvs':List (Key×V)}:∀n,(∀q:Nat,q<n->(Zak kvs' (.inl (q:Int))).isSome=(Zak kvs (.inl (q:Int))).isSome)->cntK kvs' n=cntK kvs n
 |0,_=>rfl
 |n+1,h=>by
  show cntK kvs' n+_=cntK kvs n+_
  rw[ZiB n λq hq=>h q (by omega),h n (by omega)]
theorem Zll {kvs kvs':List (Key×V)}{p:Nat} (h0:Zak kvs (.inl (p:Int))=none) (h1:(Zak kvs' (.inl (p:Int))).isSome=true):∀n,(∀q:Nat,q≠p->(Zak kvs' (.inl (q:Int))).isSome=(Zak kvs (.inl (q:Int))).isSome)->p<n->cntK kvs' n=cntK kvs n+1
 |0,_,z=>by omega
 |n+1,h,hp=>by
  show cntK kvs' n+_=cntK kvs n+_+1
  by_cases e:p=n
  ·subst e
   rw[ZiB (kvs:=kvs) (kvs':=kvs') p λq hq=>h q (by omega),h0,h1]
   simp
  ·rw[Zll h0 h1 n h (by omega),h n (λz=>e z.symm)]
   omega
theorem ZrJ {kvs:List (Key×V)}{n p:Nat}{v:V} (h:kvs.length<=cntK kvs n) (hp:p<n):(putK kvs (.inl (p:Int)) v).length<=cntK (putK kvs (.inl (p:Int)) v) n:=by
 have hv:∀q:Nat,q≠p->(Zak (putK kvs (.inl (p:Int)) v) (.inl (q:Int))).isSome=(Zak kvs (.inl (q:Int))).isSome:=λq hq=>by
  rw[Zcn,Yb (λz=>hq (by have:=Sum.inl.inj z;omega))]
 have hp2:(Zak (putK kvs (.inl (p:Int)) v) (.inl (p:Int))).isSome=true:=by rw[Zcn,Yc rfl];rfl
 cases e:Zak kvs (.inl (p:Int))with
 |none =>
  rw[Zll e hp2 n hv hp]
  have:=ZbQ kvs (.inl (p:Int)) v
  omega
 |some y =>
  have hs:(Zak kvs (.inl (p:Int))).isSome=true:=by rw[e];rfl
  have hl:(putK kvs (.inl (p:Int)) v).length=kvs.length:=by
   have ha:=Zen (.inl (p:Int)) kvs
   unfold putK
   rw[Yc (by rw[ha,hs]),Yh]
  rw[hl,ZiB (kvs:=kvs) n λq _=>by
   by_cases z:q=p
   ·subst z;rw[hp2,hs]
   ·exact hv q z]
  exact h
noncomputable def OutsAt (H:Hp) (kvs:List (Key×V)) (T:List Int) (m:Nat) (c:Nat->Nat->Nat) (r:List Nat):Prop:=∀p:Nat,p<T.length->∀v,Zak kvs (.inl (p:Int))=some v->Zgp T p r.length/\∃l:Addr,v=.ref l/\H l=some (.lst (ZaY m (oW T c (fnR r) p)))
structure Fa where
 x:Addr
 t:Addr
 y:Addr
 d:Addr
 o:Addr
 rl:Addr
noncomputable def FldsOk (fs:List (Str×V)) (a:Fa) (m:Nat):Prop:=fs.lookup (Str.ofString "tree")=some (.ref a.t)/\fs.lookup (Str.ofString "most")=some (.int m)/\fs.lookup (Str.ofString "young")=some (.ref a.y)/\fs.lookup (Str.ofString "spans")=some (.ref a.d)/\fs.lookup (Str.ofString "outsides")=some (.ref a.o)/\fs.lookup (Str.ofString "row")=some (.ref a.rl)/\fs.lookup (Str.ofString "how_many_rows")=none/\fs.lookup (Str.ofString "outside_ways")=none/\fs.lookup (Str.ofString "outside_by_elder")=none/\fs.lookup (Str.ofString "onward_ways")=none/\fs.lookup (Str.ofString "next_ways")=none
noncomputable def ZnU (H:Hp) (t:Addr) (ys:List V):Prop:=H t=some (.tup ys)\/Zeo H t ys
theorem ZjV {H H':Hp}{t:Addr}{ys:List V} (h:ZnU H t ys) (s:Zg H H'):ZnU H' t ys:=h.elim (λe=>.inl (s _ _ e)) λe=>.inr (e.same s)
theorem Zkn {K:PySem.W.Frag}{H:Hp}{t:Addr}{ys:List V} (h:ZnU H t ys):SqT K H t ys:=h.elim SqT.of Zeo.sq
theorem Zb7 {H H':Hp}{y:Addr}{T:List Int} (h:YoungAt H y T) (s:Zg H H'):YoungAt H' y T:=by
 obtain⟨as,h1,h2,h3⟩:=h
 exact⟨as,s _ _ h1,h2,λv a e=>let ⟨ah,bh,p1,p2,p3⟩:=h3 v a e;⟨ah,bh,p1,p2,s _ _ p3⟩⟩
noncomputable def Zhj (mg:Str->Option Value) (S:Hp) (a:Fa) (T:List Int) (m:Nat) (c:Nat->Nat->Nat) (r:List Nat):Prop:=∃(dx:Addr) (fs:List (Str×V)) (kvs:List (Key×V)),S a.x=some (.ins (cFi mg) dx fs)/\FldsOk fs a m/\ZnU S a.t (T.map V.int)/\YoungAt S a.y T/\WaysAt S a.d 13 m c (λp=>p<T.length)/\S a.o=some (.dK kvs)/\kvs.length<=cntK kvs T.length/\OutsAt S kvs T m c r
noncomputable def ZbS (mg:Str->Option Value) (H:Hp) (a:Fa) (T:List Int) (m:Nat) (c:Nat->Nat->Nat) (r:List Nat):Prop:=Zhj mg (strip a.rl H) a T m c r/\H a.rl=some (.lst (ZbR r))
theorem Zx {p:Addr}{H:Hp}:Zg (strip p H) H:=λb o z=>by
 by_cases e:b=p
 ·subst e;rw[Zdx]at z;cases z
 ·rw[Zaw e]at z;exact z
theorem Zmu {p:Addr}{H H':Hp} (s:Zg H H'):Zg (strip p H) (strip p H'):=λb o z=>by
 by_cases e:b=p
 ·subst e;rw[Zdx]at z;cases z
 ·rw[Zaw e]at z⊢;exact s _ _ z
theorem ZgY {p b:Addr}{H:Hp}{o:HO} (h:b≠p):strip p (upd H b o)=upd (strip p H) b o:=by
 funext d
 by_cases e:d=p
 ·subst e;rw[Zdx,Zh (λz=>h z.symm),Zdx]
 ·rw[Zaw e]
  by_cases y:d=b
  ·subst y;rw[Zc,Zc]
  ·rw[Zh y,Zh y,Zaw e]
theorem ZgZ {p:Addr}{H:Hp}{o:HO}:strip p (upd H p o)=strip p H:=by
 funext d
 by_cases e:d=p
 ·subst e;rw[Zdx,Zdx]
 ·rw[Zaw e,Zaw e,Zh e]
theorem ZfJ {mg:Str->Option Value}{S S':Hp}{a:Fa}{T:List Int}{m:Nat}{c:Nat->Nat->Nat}{r:List Nat} (h:Zhj mg S a T m c r) (s:Zg S S'):Zhj mg S' a T m c r:=by
 obtain⟨dx,fs,kvs,h1,h2,h3,h4,h5,h6,h7,h8⟩:=h
 exact⟨dx,fs,kvs,s _ _ h1,h2,ZjV h3 s,Zb7 h4 s,h5.same s,s _ _ h6,h7,λp hp v e=>let ⟨a,l,b,z⟩:=h8 p hp v e;⟨a,l,b,s _ _ z⟩⟩
theorem Zas {mg:Str->Option Value}{H H':Hp}{a:Fa}{T:List Int}{m:Nat}{c:Nat->Nat->Nat}{r:List Nat} (h:ZbS mg H a T m c r) (s:Zg H H'):ZbS mg H' a T m c r:=⟨ZfJ h.1 (Zmu s),s _ _ h.2⟩
theorem ZnV {mg:Str->Option Value}{S:Hp}{a:Fa}{T:List Int}{m:Nat}{c:Nat->Nat->Nat}{r:List Nat}{kvs:List (Key×V)}{p:Nat}{l:Addr} (h:Zhj mg S a T m c r) (hk:S a.o=some (.dK kvs)) (hp:p<T.length) (hU:Zgp T p r.length) (hl:S l=some (.lst (ZaY m (oW T c (fnR r) p)))):Zhj mg (upd S a.o (.dK (putK kvs (.inl (p:Int)) (.ref l)))) a T m c r:=by
 obtain⟨dx,fs,kvs',h1,h2,h3,h4,h5,h6,h7,h8⟩:=h
 rw[hk]at h6;cases h6
 have nl:∀{b:Addr}{xs:List V},S b=some (.lst xs)->b≠a.o:=λ{b xs} e z=>by rw[z,hk]at e;cases e
 refine⟨dx,fs,_,by rw[Zh (λz=>by rw[z,hk]at h1;cases h1)];exact h1,h2,?_,?_,?_,Zc,ZrJ h7 hp,λq hq v e=>?_⟩
 ·rcases h3 with h3|⟨ob,o1,o2⟩
  ·exact .inl (by rw[Zh (λz=>by rw[z,hk]at h3;cases h3)];exact h3)
  ·exact .inr ⟨ob,o1,by rw[Zh (λz=>by rw[z,hk]at o2;cases o2)];exact o2⟩
 ·obtain⟨as,y1,y2,y3⟩:=h4
  exact⟨as,by rw[Zh (nl y1)];exact y1,y2,λv b e=>let ⟨ah,bh,p1,p2,p3⟩:=y3 v b e;⟨ah,bh,p1,p2,by rw[Zh (nl p3)];exact p3⟩⟩
 ·obtain⟨ks,w1,w0,⟨l0,w2,w3⟩,w4⟩:=h5
  exact⟨ks,by rw[Zh (λz=>by rw[z,hk]at w1;cases w1)];exact w1,w0,⟨l0,w2,by rw[Zh (nl w3)];exact w3⟩,λp hp=>let ⟨l,x,e⟩:=w4 p hp;⟨l,x,by rw[Zh (nl e)];exact e⟩⟩
 ·rw[Zcn]at e
  by_cases z:q=p
  ·subst z
   rw[Yc rfl]at e;cases e
   exact⟨hU,l,rfl,by rw[Zh (nl hl)];exact hl⟩
  ·rw[Yb (λy=>z (by have:=Sum.inl.inj y;omega))]at e
   obtain⟨a1,l1,a2,a3⟩:=h8 q hq v e
   exact⟨a1,l1,a2,by rw[Zh (nl a3)];exact a3⟩
theorem ZiC {ns:List Int}{mg:Str->Option Value}{S:Hp}{a:Fa}{T:List Int}{m:Nat}{c:Nat->Nat->Nat}{r:List Nat} (hT:Zl ns T) (h:Zhj mg S a T m c r) (x:Nat):Zhj mg S a T m c (r++[x]):=by
 obtain⟨dx,fs,kvs,h1,h2,h3,h4,h5,h6,h7,h8⟩:=h
 refine⟨dx,fs,kvs,h1,h2,h3,h4,h5,h6,h7,λp hp v e=>?_⟩
 obtain⟨a1,l,a2,a3⟩:=h8 p hp v e
 refine⟨a1.mono (by rw[YD];omega),l,a2,?_⟩
 rw[a3,Zlk hT (f:=fnR r) (g:=fnR (r++[x])) (k:=r.length) (λi hi=>by unfold fnR;simp[Yr,YU hi]) _ p hp (Yd _) a1]
noncomputable def Zlm (T:List Int) (m:Nat) (c:Nat->Nat->Nat) (r:List Nat):Prop:=ZT T/\T.length<=12/\0<m/\m<=12/\WaysIs T m c/\(∀i∈r,i<m)/\r.length<=T.length
noncomputable def ZV (n:Nat):SpT:=λK mg vs H Q E=>match n with
 |0=>False
 |n+1=>∃(a:Fa) (T:List Int) (m:Nat) (c:Nat->Nat->Nat) (r:List Nat) (p:Nat),vs=[.ref a.x,.int p]/\ZbS mg H a T m c r/\Zlm T m c r/\p<T.length/\Zgp T p r.length/\3*(way T p).length+1<=n/\∀(l:Addr) H',Exc a.o H H'->ZbS mg H' a T m c r->strip a.rl H' l=some (.lst (ZaY m (oW T c (fnR r) p)))->Q (.ref l) H'
noncomputable def Z0 (n:Nat):SpT:=λK mg vs H Q E=>match n with
 |0=>False
 |n+1=>∃(a:Fa) (T:List Int) (m:Nat) (c:Nat->Nat->Nat) (r:List Nat) (p:Nat),vs=[.ref a.x,.int p,.int (nth T p)]/\ZbS mg H a T m c r/\Zlm T m c r/\p<T.length/\Zgp T p r.length/\3*(way T p).length<=n/\∀(l:Addr) H',Exc a.o H H'->ZbS mg H' a T m c r->strip a.rl H' l=some (.lst (ZaY m (oW T c (fnR r) p)))->Q (.ref l) H'
noncomputable def ZY (n:Nat):SpT:=λK mg vs H Q E=>match n with
 |0=>False
 |n+1=>∃(a:Fa) (T:List Int) (m:Nat) (c:Nat->Nat->Nat) (r:List Nat) (p:Nat),vs=[.ref a.x,.int p]/\ZbS mg H a T m c r/\Zlm T m c r/\p<T.length/\Zgp T p r.length/\3*(way T p).length+2<=n/\∀(l:Addr) H',Exc a.o H H'->ZbS mg H' a T m c r->strip a.rl H' l=some (.lst (ZaY m (nW T c (fnR r) p)))->Q (.ref l) H'
noncomputable def ZdD:SpT:=ZY 40
noncomputable def Zad:SpT:=λK mg vs H Q E=>∃(a:Fa) (T:List Int) (m:Nat) (c:Nat->Nat->Nat) (r:List Nat),vs=[.ref a.x]/\ZbS mg H a T m c r/\Zlm T m c r/\r.length<T.length/\∀(l:Addr) H',Exc a.o H H'->ZbS mg H' a T m c r->strip a.rl H' l=some (.lst (ZaY (abV T m (fnR r) r.length) (nW T c (fnR r) r.length)))->Q (.ref l) H'
theorem Zko (m:Nat) (g:Nat->Nat):ZaY m g=((List.range m).map λj=>((g j:Nat):Int)).map V.int:=by simp[ZaY,Y1,Function.comp_def]
theorem Zdn (g:Nat->Nat):∀k,ZG 0 ((List.range k).map λj=>((g j:Nat):Int))=(List.range k).map (λi=>((sumTo g (i+1):Nat):Int))/\((List.range k).map λj=>((g j:Nat):Int)).sum=((sumTo g k:Nat):Int)
 |0=>by simp[ZG,sumTo]
 |k+1=>by
  obtain⟨h1,h2⟩:=Zdn g k
  rw[YQ,YV,ZbU,h1,h2,List.sum_append,h2,YV]
  constructor
  ·simp[ZG,sumTo]
  ·simp[sumTo]
noncomputable def cT (T:List Int) (m:Nat):Nat->Nat->Nat:=cF T m T.length
noncomputable def Zfw (T:List Int) (m:Nat):Nat:=topC T (cT T m)
noncomputable def RowIs (T:List Int) (m:Nat) (r:List Nat):Prop:=r.length=T.length/\Zbe T m (fnR r) T.length
theorem Zkp {ns T:List Int} (hT:Zl ns T) {m:Nat}{c:Nat->Nat->Nat} (hW:WaysIs T m c):topC T c=Zfw T m:=top_one hT hW (cF_ways hT m)
noncomputable def Zdo (r:List Nat):List Int:=r.map λi=>((i:Nat):Int)
theorem Zgq {r:List Nat}{i:Nat} (h:i<r.length):nth (Zdo r) i=((fnR r i:Nat):Int):=by
 simp[nth,Zdo,fnR,Yr,h]
theorem ZiD (r:List Nat):ZbR r=(Zdo r).map V.int:=by simp[ZbR,Zdo,Y1,Function.comp_def]
theorem Zln {T:List Int}{m:Nat}{r:List Nat} (h:Zl (Zdo r) T) (hm:∀i∈r,i<m):RowIs T m r:=by
 have hl:(Zdo r).length=r.length:=by simp[Zdo]
 have eN:=h.1
 refine⟨by omega,λq hq=>⟨?_,λe he=>?_⟩⟩
 ·have e2:fnR r q=r[q]'(by omega):=by simp[fnR,Yr,show q<r.length by omega]
  rw[e2];exact hm _ (YY _)
 ·have hO:=(Zbo h (by omega)).mp (show e∈way T q by rw[ZaG h (by omega) he];simp)
  obtain⟨h1,h2⟩:=hO
  refine⟨λz=>?_,λz z2=>?_⟩
  ·rcases h2 with⟨y1,y2⟩|⟨y1,y2⟩
   ·have:=y2 q z (Yd _)
    rw[Zgq (by omega),Zgq (by omega)]at this;omega
   ·omega
  ·rcases h2 with⟨y1,y2⟩|⟨y1,y2⟩
   ·omega
   ·have:=y2 q (Yd _) z
    rw[Zgq (by omega),Zgq (by omega)]at this;omega
theorem ZpM {r:List Nat}{x i:Nat} (h:i<r.length):fnR (r++[x]) i=fnR r i:=by simp[fnR,Yr,YU h]
theorem Zep {r:List Nat}{x:Nat}:fnR (r++[x]) r.length=x:=by simp[fnR,Yr]
theorem Zbe.ext {T:List Int}{m k:Nat}{f g:Nat->Nat} (h:Zbe T m f k) (e:∀i,i<k->f i=g i):Zbe T m g k:=λq hq=>⟨by rw[<-e q hq];exact(h q hq).1,λd hd=>⟨λz=>by rw[<-e q hq,<-e d (by omega)];exact((h q hq).2 d hd).1 z,λz z2=>by rw[<-e q hq,<-e d z2];exact((h q hq).2 d hd).2 z z2⟩⟩
theorem Zm3 {T:List Int}{m k:Nat}{f g:Nat->Nat} (e:∀i,i<k->f i=g i):abV T m f k=abV T m g k:=by
 unfold abV
 cases h:kidA T k with
 |none=>rfl
 |some a=>exact e a (ZbC h).1
theorem ZpN {ns T:List Int}{m:Nat}{c:Nat->Nat->Nat} (hT:Zl ns T) (hW:WaysIs T m c) {r:List Nat}{x rest:Nat} (hk:r.length<T.length) (h:Zbe T m (fnR r) r.length) (hx:x<abV T m (fnR r) r.length) (hr:rest<nW T c (fnR r) r.length x):Zbe T m (fnR (r++[x])) (r.length+1)/\rest<vW T m c (fnR (r++[x])) (r.length+1)/\rkF T c (fnR (r++[x])) (r.length+1)=rkF T c (fnR r) r.length+sumTo (nW T c (fnR r) r.length) x/\x<m:=by
 have e:∀i,i<r.length->fnR r i=fnR (r++[x]) i:=λi hi=>(ZpM hi).symm
 have e1:=ZiA hT (c:=c) e hk (Zh0 hT hk)
 have hP:Zbe T m (fnR (r++[x])) (r.length+1):=by
  refine Zbe.more hT (c:=c) hk (h.ext e) ?_ ?_
  ·rw[Zep,<-Zm3 e];exact hx
  ·rw[Zep,<-e1];omega
 have hm:=(hP r.length (by omega)).1
 rw[Zep]at hm
 refine⟨hP,?_,?_,hm⟩
 ·rw[ZrH hT hW hk hP,Zep,<-e1];exact hr
 ·show rkF T c (fnR (r++[x])) r.length+sumTo (nW T c (fnR (r++[x])) r.length) (fnR (r++[x]) r.length)=_
  rw[Zep,<-e1,ZjU hT r.length (by omega) e]
theorem Zfn:∀(ws:List Int) (x:Int),0<=x->x<ws.sum->x=(ws.take (Zax ws x).1).sum+(Zax ws x).2
 |[],x,h0,h1=>by simp at h1;omega
 |a::ws,x,h0,h1=>by
  rw[List.sum_cons]at h1
  unfold Zax
  by_cases z:a<=x
  ·rw[Yc z]
   have ih:=Zfn ws (x-a) (by omega) (by omega)
   simp only[List.take_succ_cons,List.sum_cons]
   omega
  ·rw[Yb z];simp
theorem ZpO {g:Nat->Nat}{k:Nat}{x:Int} (h0:0<=x) (h1:x<(sumTo g k:Nat)):∃i rest:Nat,Zax ((List.range k).map λj=>((g j:Nat):Int)) x=(i,(rest:Int))/\i<k/\rest<g i/\x=((sumTo g i+rest:Nat):Int):=by
 have hs:x<((List.range k).map λj=>((g j:Nat):Int)).sum:=by rw[(Zdn g k).2];exact h1
 obtain⟨p1,p2,p3⟩:=Zla _ x h0 hs
 have p4:=Zfn _ x h0 hs
 generalize Zax ((List.range k).map λj=>((g j:Nat):Int)) x=p at *
 obtain⟨i,y⟩:=p
 simp only[Yh,YZ]at p1
 refine⟨i,y.toNat,by simp only[Prod.mk.injEq,true_and];omega,p1,?_,?_⟩
 ·simp[Yr,p1]at p3
  simp only at p2
  omega
 ·simp only at p4 p2
  rw[<-List.map_take,List.take_range,show min i k=i by omega,(Zdn g i).2]at p4
  omega
noncomputable def sp_Filling___init__:SpT:=λK mg vs H Q E=>∃(x dx t:Addr) (T:List Int) (m:Nat),vs=[.ref x,.ref t,.int m]/\H x=some (.ins (cFi mg) dx [])/\ZnU H t (T.map V.int)/\ZT T/\T.length<=12/\m<=12/\Zb6 K mg "from_below" H/\∀(a:Fa) (c:Nat->Nat->Nat) H',a.x=x->a.t=t->H a.rl=none->H a.o=none->Exc x H H'->WaysIs T m c->ZbS mg H' a T m c []->Q .non H'
noncomputable def Zkq:SpT:=λK mg vs H Q E=>∃(a:Addr) (ws:List Int) (x:Int),vs=[.ref a,.int x]/\H a=some (.lst (ws.map V.int))/\0<=x/\x<ws.sum/\∀(u:Addr) H',Zg H H'->H' u=some (.tup [.int ((Zax ws x).1:Nat),.int (Zax ws x).2])->Q (.ref u) H'
noncomputable def ZaV (n:Nat) (m:Int):Prop:=n<=12/\0<=m/\m<=12
noncomputable def sp_need_few:SpT:=λK mg vs H Q E=>∃(n:Nat) (m:Int),vs=[.int n,.int m]/\(ZaV n m->Q .non H)/\(¬ ZaV n m->∀H',Zg H H'->E (.ref (clsAt mg "TooMany")) none H')
noncomputable def Zcp (H:Hp) (t:Addr) (T:List Int):Prop:=Zeo H t (T.map V.int)\/(¬ ZT T/\H t=some (.tup (T.map V.int)))
theorem Zcp.same {H H':Hp}{t:Addr}{T:List Int} (h:Zcp H t T) (s:Zg H H'):Zcp H' t T:=h.elim (λe=>.inl (e.same s)) λe=>.inr ⟨e.1,s _ _ e.2⟩
theorem Zcp.sq {K:PySem.W.Frag}{H:Hp}{t:Addr}{T:List Int} (h:Zcp H t T):SqT K H t (T.map V.int):=h.elim Zeo.sq λe=>SqT.of e.2
theorem Zcp.good {H:Hp}{t:Addr}{T:List Int} (h:Zcp H t T) (g:ZT T):Zeo H t (T.map V.int):=h.elim id λe=>absurd g e.1
noncomputable def sp_many_rows:SpT:=λK mg vs H Q E=>∃(t:Addr) (T:List Int) (m:Int),vs=[.ref t,.int m]/\Zcp H t T/\T.length<=1000/\Zb6 K mg "from_below" H/\(ZT T->ZaV T.length m->∀(k:Nat) H',Zg H H'->Q (.int k) H')/\(¬ ZT T->∀H',Zg H H'->E (.ref (clsAt mg "NoTree")) none H')/\(ZT T->¬ ZaV T.length m->∀H',Zg H H'->E (.ref (clsAt mg "TooMany")) none H')
noncomputable def Zg0:SpT:=λK mg vs H Q E=>∃(t:Addr) (T:List Int) (m x:Int),vs=[.ref t,.int m,.int x]/\Zcp H t T/\T.length<=1000/\Zb6 K mg "from_below" H/\(ZT T->ZaV T.length m->(0<=x/\x<(Zfw T m.toNat:Nat))->∀(u:Addr) (r:List Nat) H',H u=none->Zg H H'->r.length<=12->H' u=some (.tup (ZbR r))->Q (.ref u) H')/\(¬ ZT T->∀H',Zg H H'->E (.ref (clsAt mg "NoTree")) none H')/\(ZT T->¬ ZaV T.length m->∀H',Zg H H'->E (.ref (clsAt mg "TooMany")) none H')/\(ZT T->ZaV T.length m->¬ (0<=x/\x<(Zfw T m.toNat:Nat))->∀H',Zg H H'->E (.ref (clsAt mg "NoNumber")) none H')
noncomputable def InB (ns:List Int) (m:Int):Prop:=∀y∈ns,0<=y/\y<m
noncomputable def ZbD:SpT:=λK mg vs H Q E=>∃(t:Addr) (ns:List Int) (m:Int),vs=[.ref t,.int m]/\(SqL K H t (ns.map V.int)\/SqT K H t (ns.map V.int))/\ns.length<=1000/\Zb6 K mg "from_below" H/\(ZaV ns.length m->InB ns m->∀(k:Nat) H',Zg H H'->Q (.int k) H')/\(¬ ZaV ns.length m->∀H',Zg H H'->E (.ref (clsAt mg "TooMany")) none H')/\(ZaV ns.length m->¬ InB ns m->∀H',Zg H H'->E (.ref (clsAt mg "NoNumber")) none H')
noncomputable def Zcq:SpT:=λK mg vs H Q E=>∃(t:Addr) (T:List Int),vs=[.ref t]/\SqT K H t (T.map V.int)/\T.length<=1000/\(ZT T->∀(k:Nat) H',Zg H H'->Q (.int k) H')/\(¬ ZT T->∀H',Zg H H'->E (.ref (clsAt mg "NoTree")) none H')
noncomputable def ZbX:SpT:=λK mg vs H Q E=>∃(t:Addr) (T:List Int),vs=[.ref t]/\SqT K H t (T.map V.int)/\T.length<=1000/\(ZT T->∀H',Zg H H'->Q (.bl true) H')/\(¬ ZT T->∀H',Zg H H'->Q (.bl false) H')
noncomputable def ZdE:SpT:=λK mg vs H Q E=>∃(p t:Addr) (T:List Int),vs=[.ref p,.ref t]/\ZL H p/\SqT K H t (T.map V.int)/\T.length<=900/\∀(t':Addr) (T':List Int) H',t'≠p->Zeo H' t' (T'.map V.int)->T'.length<=T.length+1->ZL H' p->Exc p H H'->Q (.ref t') H'
noncomputable def ZdF:SpT:=λK mg vs H Q E=>∃(t:Addr) (T:List Int),vs=[.ref t]/\SqT K H t (T.map V.int)/\T.length<=1000/\(∀p,p<T.length->Za8 T T.length (nth T p))/\∀(w:Addr) H',H w=none->Zg H H'->H' w=some (.lst ((Zgh T).map V.int))->Q (.ref w) H'
noncomputable def PlaceOk (T:List Int) (n:Nat):Option Nat->Prop
 |none=>0<n
 |some p=>p<T.length/\T.length+1<=n+(way T p).length
noncomputable def sp__law_counted_R (n:Nat):SpT:=λK mg vs H Q E=>match n with
 |0=>False
 |n+1=>∃(t:Addr) (T:List Int) (o:Option Nat) (m:Nat) (c:Nat->Nat->Nat),vs=[.ref t,optN o,.int 0,.int m]/\SqT K H t (T.map V.int)/\ZT T/\T.length<=12/\m<=12/\WaysIs T m c/\PlaceOk T (n+1) o/\∀(l:Addr) (z:Int) H',H l=none->Zg H H'->H' l=some (.lst (wayL m (cOf c o)++[.int z]))->Q (.ref l) H'
noncomputable def sp__law_counted:SpT:=sp__law_counted_R 13
noncomputable def sp__law_many:SpT:=λK mg vs H Q E=>∃(t:Addr) (T:List Int) (m:Nat) (c:Nat->Nat->Nat),vs=[.ref t,.int m]/\Zeo H t (T.map V.int)/\ZT T/\T.length<=12/\m<=12/\WaysIs T m c/\∀H',Zg H H'->Q (.int ((topC T c:Nat):Int)) H'
open Classical in
noncomputable def Zft (way:Nat) (T:List Int) (m x:Int):Option Nat :=
 if way≠2/\¬ ZT T then some 3 else if way<3/\¬ ZaV T.length m then some 2 else if way=1/\¬ (0<=x/\x<(Zfw T m.toNat:Nat))then some 6 else if way=2/\¬ InB T m then some 6 else none
noncomputable def Zfx (K:PySem.W.Frag) (H:Hp) (way:Nat) (t:Addr) (T:List Int):Prop:=(way≠2/\Zcp H t T)\/(way=2/\(SqL K H t (T.map V.int)\/SqT K H t (T.map V.int)))
noncomputable def ZnW (mg:Str->Option Value) (k:Nat):Addr:=if k=2 then clsAt mg "TooMany" else if k=3 then clsAt mg "NoTree" else clsAt mg "NoNumber"
noncomputable def ZcZ:SpT:=λK mg vs H Q E=>∃(e:Addr) (k:Nat),(k=2\/k=3\/k=6)/\vs=[.ref e,.int k]/\H e=some (Zjb e (ZnW mg k))/\∀H',Zg H H'->Q (.bl true) H'
noncomputable def Zkr (mg:Str->Option Value) (H:Hp) (way:Nat) (d:Option Nat) (v:V):Prop:=match d with
 |some k=>∃e:Addr,v=.ref e/\H e=some (Zjb e (ZnW mg k))
 |none=>if way=1 then ∃(u:Addr) (r:List Nat),v=.ref u/\r.length<=12/\H u=some (.tup (ZbR r))else ∃k:Nat,v=.int k
noncomputable def Zc0:SpT:=λK mg vs H Q E=>∃(way:Nat) (t:Addr) (T:List Int) (m x:Int),vs=[.int way,.ref t,.int m,.int x]/\way<=3/\Zfx K H way t T/\T.length<=1000/\Zb6 K mg "from_below" H/\∀(v:V) H',Zg H H'->Zkr mg H' way (Zft way T m x) v->Q v H'
noncomputable def optI:Option Nat->V
 |none=>.non
 |some k=>.int k
noncomputable def Zeq:SpT:=λK mg vs H Q E=>∃(way:Nat) (t:Addr) (T:List Int) (m x:Int),vs=[.int way,.ref t,.int m,.int x]/\way<=3/\Zfx K H way t T/\T.length<=1000/\∀H',Zg H H'->Q (optI (Zft way T m x)) H'
noncomputable def ZbY:SpT:=λK mg vs H Q E=>∃(q:Addr) (xs:List Int),vs=[.ref q]/\H q=some (.tup (xs.map V.int))/\xs.length<=1000/\∀H',Zg H H'->Q (.bl true) H'
noncomputable def sp__law_right:SpT:=λK mg vs H Q E=>∃(way:Nat) (t:Addr) (T:List Int) (m x:Int),vs=[.int way,.ref t,.int m,.int x]/\way<=3/\Zfx K H way t T/\T.length<=1000/\Zb6 K mg "from_below" H/\∀H',Zg H H'->Q (.bl true) H'
section
variable {P:Program}{w:World}{K:PySem.W.Frag}{mg:Str->Option Value}{base:Heap}
theorem sc_settle:FnScope ["elders","spine","place","keep"] ["elders","spine","place","keep"] (defScope s_settle):=⟨rfl,rfl,rfl,by decide +kernel,rfl,by decide +kernel,by decide +kernel⟩
theorem sc_tree_of:FnScope ["row","elders","spine","place","keep"] ["row"] (defScope s_tree_of):=⟨rfl,rfl,rfl,by decide +kernel,rfl,by decide +kernel,by decide +kernel⟩
theorem sc_way_up:FnScope ["tree","place","way","at"] ["tree","place"] (defScope s_way_up):=⟨rfl,rfl,rfl,by decide +kernel,rfl,by decide +kernel,by decide +kernel⟩
theorem sc_is_tree:FnScope ["tree","depths"] ["tree"] (defScope s_is_tree):=⟨rfl,rfl,rfl,by decide +kernel,rfl,by decide +kernel,by decide +kernel⟩
theorem sc_need_tree:FnScope ["tree"] ["tree"] (defScope s_need_tree):=⟨rfl,rfl,rfl,by decide +kernel,rfl,by decide +kernel,by decide +kernel⟩
theorem ZaS:FnScope ["tree","fences","place","way","ahead","behind"] ["tree"] (defScope Zba):=⟨rfl,rfl,rfl,by decide +kernel,rfl,by decide +kernel,by decide +kernel⟩
theorem sc_young_of:FnScope ["tree","young","place","elder"] ["tree"] (defScope s_young_of):=⟨rfl,rfl,rfl,by decide +kernel,rfl,by decide +kernel,by decide +kernel⟩
theorem sc_from_below:FnScope ["tree"] ["tree"] (defScope s_from_below):=⟨rfl,rfl,rfl,by decide +kernel,rfl,by decide +kernel,by decide +kernel⟩
theorem sc_running_sums:FnScope ["numbers","sums","total","number"] ["numbers"] (defScope s_running_sums):=⟨rfl,rfl,rfl,by decide +kernel,rfl,by decide +kernel,by decide +kernel⟩
theorem Zlo:FnScope ["tree"] ["tree"] (defScope ZbA):=⟨rfl,rfl,rfl,by decide +kernel,rfl,by decide +kernel,by decide +kernel⟩
theorem Zh1:FnScope ["ways","number","at"] ["ways","number"] (defScope ZgW):=⟨rfl,rfl,rfl,by decide +kernel,rfl,by decide +kernel,by decide +kernel⟩
theorem sc_need_few:FnScope ["many","m"] ["many","m"] (defScope s_need_few):=⟨rfl,rfl,rfl,by decide +kernel,rfl,by decide +kernel,by decide +kernel⟩
theorem sc_span_ways:FnScope ["tree","young","m","ways","place","ahead","behind","each"] ["tree","young","m"] (defScope s_span_ways):=⟨rfl,rfl,rfl,by decide +kernel,rfl,by decide +kernel,by decide +kernel⟩
theorem sc_Filling___init__:FnScope ["self","tree","m"] ["self","tree","m"] (defScope s_Filling___init__):=⟨rfl,rfl,rfl,by decide +kernel,rfl,by decide +kernel,by decide +kernel⟩
theorem sc_Filling_how_many_rows:FnScope ["self"] ["self"] (defScope s_Filling_how_many_rows):=⟨rfl,rfl,rfl,by decide +kernel,rfl,by decide +kernel,by decide +kernel⟩
theorem Zbf:FnScope ["self","place"] ["self","place"] (defScope ZJ):=⟨rfl,rfl,rfl,by decide +kernel,rfl,by decide +kernel,by decide +kernel⟩
theorem Z6:FnScope ["self","place","elder","least"] ["self","place","elder"] (defScope ZD):=⟨rfl,rfl,rfl,by decide +kernel,rfl,by decide +kernel,by decide +kernel⟩
theorem Zat:FnScope ["self","place","behind"] ["self","place"] (defScope ZM):=⟨rfl,rfl,rfl,by decide +kernel,rfl,by decide +kernel,by decide +kernel⟩
theorem Zae:FnScope ["self","place","ahead","above"] ["self"] (defScope ZU):=⟨rfl,rfl,rfl,by decide +kernel,rfl,by decide +kernel,by decide +kernel⟩
theorem sc_many_rows:FnScope ["tree","m"] ["tree","m"] (defScope s_many_rows):=⟨rfl,rfl,rfl,by decide +kernel,rfl,by decide +kernel,by decide +kernel⟩
theorem Zdp:FnScope ["tree","m","number","filling","place","chosen"] ["tree","m","number"] (defScope Zdm):=⟨rfl,rfl,rfl,by decide +kernel,rfl,by decide +kernel,by decide +kernel⟩
theorem Zan:FnScope ["row","m","filling","at","number"] ["row","m"] (defScope Zab):=⟨rfl,rfl,rfl,by decide +kernel,rfl,by decide +kernel,by decide +kernel⟩
theorem Z1:FnScope ["tree","orders","bound","many","a","b"] ["tree"] (defScope ZaA):=⟨rfl,rfl,rfl,by decide +kernel,rfl,by decide +kernel,by decide +kernel⟩
theorem sc__law_deal:FnScope ["cell","great","one","k","two"] ["cell"] (defScope s__law_deal):=⟨rfl,rfl,rfl,by decide +kernel,rfl,by decide +kernel,by decide +kernel⟩
theorem sc__law_take:FnScope ["pot","many","digit"] ["pot","many"] (defScope s__law_take):=⟨rfl,rfl,rfl,by decide +kernel,rfl,by decide +kernel,by decide +kernel⟩
theorem sc__law_unlike:FnScope ["pot","many","order","number"] ["pot","many"] (defScope s__law_unlike):=⟨rfl,rfl,rfl,by decide +kernel,rfl,by decide +kernel,by decide +kernel⟩
theorem sc__law_row:FnScope ["pot","most","many","kind","row","place","few","great"] ["pot","most"] (defScope s__law_row):=⟨rfl,rfl,rfl,by decide +kernel,rfl,by decide +kernel,by decide +kernel⟩
theorem sc__law_tree:FnScope ["row","elders","place","number","earlier","later","elder"] ["row"] (defScope s__law_tree):=⟨rfl,rfl,rfl,by decide +kernel,rfl,by decide +kernel,by decide +kernel⟩
theorem Zb8:FnScope ["tree","place","over","here"] ["tree","place"] (defScope Zbb):=⟨rfl,rfl,rfl,by decide +kernel,rfl,by decide +kernel,by decide +kernel⟩
theorem Zks:FnScope ["tree"] ["tree"] (defScope Zbc):=⟨rfl,rfl,rfl,by decide +kernel,rfl,by decide +kernel,by decide +kernel⟩
theorem sc__law_whole:FnScope ["thing"] ["thing"] (defScope s__law_whole):=⟨rfl,rfl,rfl,by decide +kernel,rfl,by decide +kernel,by decide +kernel⟩
theorem ZhJ:FnScope ["thing"] ["thing"] (defScope Zal):=⟨rfl,rfl,rfl,by decide +kernel,rfl,by decide +kernel,by decide +kernel⟩
theorem ZbF:FnScope ["e","at","some"] ["e","at"] (defScope ZaQ):=⟨rfl,rfl,rfl,by decide +kernel,rfl,by decide +kernel,by decide +kernel⟩
theorem sc__law_counted:FnScope ["tree","place","least","m","hands","other","elder","ahead","behind","many","number","one"] ["tree","place","least","m"] (defScope s__law_counted):=⟨rfl,rfl,rfl,by decide +kernel,rfl,by decide +kernel,by decide +kernel⟩
theorem sc__law_many:FnScope ["tree","m"] ["tree","m"] (defScope s__law_many):=⟨rfl,rfl,rfl,by decide +kernel,rfl,by decide +kernel,by decide +kernel⟩
theorem Zay:FnScope ["tree","place","here","turn"] ["tree"] (defScope Zam):=⟨rfl,rfl,rfl,by decide +kernel,rfl,by decide +kernel,by decide +kernel⟩
theorem Zbp:FnScope ["pot","tree","some","at","to","way"] ["pot","tree"] (defScope Zbd):=⟨rfl,rfl,rfl,by decide +kernel,rfl,by decide +kernel,by decide +kernel⟩
theorem Z7:FnScope ["way","one","m","number","found","e"] ["way","one","m","number"] (defScope ZaR):=⟨rfl,rfl,rfl,by decide +kernel,rfl,by decide +kernel,by decide +kernel⟩
theorem Zlp:FnScope ["way","one","m","number"] ["way","one","m","number"] (defScope ZbB):=⟨rfl,rfl,rfl,by decide +kernel,rfl,by decide +kernel,by decide +kernel⟩
theorem sc__law_right:FnScope ["way","one","m","number","due","found"] ["way","one","m","number"] (defScope s__law_right):=⟨rfl,rfl,rfl,by decide +kernel,rfl,by decide +kernel,by decide +kernel⟩
theorem sc_law:FnScope ["script","cell","pot","tree","m","number","row","way"] ["script"] (defScope s_law):=⟨rfl,rfl,rfl,by decide +kernel,rfl,by decide +kernel,by decide +kernel⟩
theorem ok__law_whole {f:Addr}{fd:FuncData} (F:Fun K "_law_whole" "_law_whole" s__law_whole f fd) (T:Txt K mg):FnOk P w K mg base (CXE P w) 1 f fd ["thing"] (sp__law_whole K mg):=by
 refine F.okX sc__law_whole (λvs H Q E h=>?_) (λcdv A outer s H vs Q E hr h=>?_)
 ·obtain⟨n,rfl,_⟩:=h;rfl
 obtain⟨i,rfl,k1⟩:=h
 refine⟨_,(Zf (Zu (ZgG (Zi (Zo (K:=K) rfl) rfl T.b_isinstance Zj (Za (pv 0) (Za (Zdr (v:=.ty "int") rfl T.b_int Zl6 rfl) Zb))) (ZgF (pe_not (Zi (Zo (K:=K) rfl) rfl T.b_isinstance Zj (Za (pv 0) (Za (Zdr (v:=.ty "bool") rfl T.b_bool Zrf rfl) Zb)))))))),?_⟩
 walk_at "rd"
 exact⟨_,ty_ii,iteT ⟨_,ty_ib,k1⟩⟩
theorem ok__law_deal {f:Addr}{fd:FuncData} (F:Fun K "_law_deal" "_law_deal" s__law_deal f fd) (T:Txt K mg):FnOk P w K mg base (CXE P w) 1 f fd ["cell"] (sp__law_deal K mg):=by
 refine F.okX sc__law_deal (λvs H Q E h=>?_) (λcdv A outer s H vs Q E hr h=>?_)
 ·obtain⟨c,rfl,_⟩:=h;rfl
 obtain⟨cell,rfl,k1⟩:=h
 refine⟨_,(Zd (ZK (Zn Zju (pv 0) (Zp Zby Ze Ze) (Zs _)) (Zf (Zu (ZO (Za (Zp ZfF (Zp Zbj (pv 0) (Zp Zby Ze Ze)) (Zp ZaM (Zp ZaM (Zp Zby Ze Ze) (Zp Zby Ze Ze)) (Zp Zby Ze Ze))) Zb)))) Zw)
   (Zd (Zm (i:=1) sc__law_deal.nd rfl (Or.inl rfl) Ze)
   (Zd (Zm (i:=2) sc__law_deal.nd rfl (Or.inl rfl) (Zp ZZ (Zp ZfF (pv 0) Ze) Ze))
   (Zd (Zag (ZaC PassesOwn.never rfl (Zaa rfl T.b_range (Za Ze Zb)) (Zv (i:=3) sc__law_deal.nd rfl (Or.inl rfl)) (Zd (Zm (i:=2) sc__law_deal.nd rfl (Or.inl rfl) (Zp ZfF (Zp ZZ (Zp ZZ (Zp ZaM (pv 2) Ze) (Zp ZaM Ze (pv 3))) Ze) Ze))
   (Zd (Zm (i:=4) sc__law_deal.nd rfl (Or.inl rfl) (Zp ZfF (Zp ZaM (pv 2) (pv 2)) Ze))
   (Zf (Zm (i:=1) sc__law_deal.nd rfl (Or.inl rfl) (Zp ZZ (Zp ZaM (pv 1) Ze) (Zp ZfF (Zp Zio (pv 4) Ze) Ze))))))))
   (Zf (Zu (ZO (Za (pv 1) Zb)))))))),?_⟩
 walk_at "rd"
 have fin:∀g:Int,0<=g->∀p,H p=none->Q (V.ref p) (upd H p (.lst [V.int g])):=λg hg p hp=>k1 p _ hp ((Zg.refl H).upd hp) ⟨_,Zc,hg⟩
 refine⟨cp18,ZE (λ_=>⟨cp18,cp64,cp64,pm1,cp64,pm2,pmz3,by decide,fin _ (Int.emod_nonneg _ (Int.ne_of_gt pmz3))⟩) λ_=>⟨by decide,by decide,by decide,?_⟩⟩
 refine Za9 (λi σ H'=>∃g o v3 v4,σ=[some (.int cell),some (.int g),some (.int o),v3,v4]/\0<=g/\H'=H) ⟨0,_,none,none,rfl,Int.le_refl _,rfl⟩ ?_ ?_
 ·rintro i σ H' hi ⟨g,o,v3,v4,rfl,hg,rfl⟩
  walk_at "rd"
  have b1:=Int.emod_nonneg (o*48271+7919*(0+(i:Int))+12345) (b:=2147483647) (by decide)
  have b2:=Int.emod_lt_of_pos (o*48271+7919*(0+(i:Int))+12345) (b:=2147483647) (by decide)
  refine⟨mul_r (by decide) (by decide),ZmP (by decide) (by decide),by decide,ZmP (by omega) (by omega),by decide,mul_r (by decide) (by decide),⟨by decide,by decide⟩,by decide,?_⟩
  have b3:=Int.emod_nonneg ((o*48271+7919*(0+(i:Int))+12345) % 2147483647*((o*48271+7919*(0+(i:Int))+12345) % 2147483647) % 2147483629 / 256) (b:=4194304) (by decide)
  have b4:=Int.mul_nonneg hg (show(0:Int)<=4194304 by decide)
  omega
 ·rintro σ H' ⟨g,o,v3,v4,rfl,hg,rfl⟩
  walk_at "rd"
  exact⟨by decide,fin g hg⟩
theorem ok__law_take {f:Addr}{fd:FuncData} (F:Fun K "_law_take" "_law_take" s__law_take f fd) (T:Txt K mg):FnOk P w K mg base (CXE P w) 1 f fd ["pot","many"] (sp__law_take K mg):=by
 refine F.okX sc__law_take (λvs H Q E h=>?_) (λcdv A outer s H vs Q E hr h=>?_)
 ·obtain⟨p,many,rfl,_⟩:=h;rfl
 obtain⟨p,many,rfl,h0,h1,⟨x,hp,hx⟩,k1⟩:=h
 refine⟨_,(Zd (Zm (i:=2) sc__law_take.nd rfl (Or.inl rfl) (Zp ZfF (ZF ZA (pv 0) Ze (λ_ _=>rfl)) (pv 1)))
   (Zd (Zbx (Zp Zio (ZF ZA (pv 0) Ze (λ_ _=>rfl)) (pv 1)) (ZcU (pv 0) Ze set_list (λ_=>rfl)))
   (Zf (Zu (pv 2))))),?_⟩
 walk_at "rd"
 refine⟨_,SqL.of hp,_,rfl,_,rfl,h0,?_⟩
 refine⟨_,SqL.of hp,_,rfl,_,rfl,⟨h0,by omega⟩,_,hp,_,rfl,?_⟩
 exact k1 _ _ (Int.emod_nonneg _ (by omega)) (Int.emod_lt_of_pos _ h0) ⟨_,Zc,Int.ediv_nonneg hx (by omega)⟩ Exc.upd
theorem ok__law_unlike {f:Addr}{fd:FuncData} (F:Fun K "_law_unlike" "_law_unlike" s__law_unlike f fd) (Zq:Callee P w K mg base "_law_take" 1 ["pot","many"] (sp__law_take K mg)) (T:Txt K mg):FnOk P w K mg base (CXE P w) 2 f fd ["pot","many"] (sp__law_unlike K mg):=by
 refine F.okX sc__law_unlike (λvs H Q E h=>?_) (λcdv A outer s H vs Q E hr h=>?_)
 ·obtain⟨p,many,rfl,_⟩:=h;rfl
 obtain⟨p,many,rfl,h0,h1,hP,k1⟩:=h
 refine⟨_,(Zd (Zm (i:=2) sc__law_unlike.nd rfl (Or.inl rfl) (ZO Zb))
   (Zd (Zag (ZaC PassesOwn.never rfl (Zaa rfl T.b_range (Za (pv 1) Zb)) (Zv (i:=3) sc__law_unlike.nd rfl (Or.inl rfl)) (Zf (Z4 (Zcl PySem.F.plainAttrs_list PySem.F.slot_list_insert PySem.F.type_list_insert ZjF (pv 2) (Za (Zk Zq (hr.mono (by decide)) rfl Zy (Za (pv 0) (Za (Zp ZZ (pv 3) Ze) Zb))) (Za (pv 3) Zb)))))))
   (Zf (Zu (pv 2))))),?_⟩
 walk_at "rd"
 refine⟨Yn _,λq hq=>⟨by omega,by omega,?_⟩⟩
 have hqp:q≠p:=hP.ne hq
 refine Za9 (λi σ H'=>∃(ns:List Int) (v3:Option V),σ=[some (.ref p),some (.int many),some (.ref q),v3]/\ns.length=i/\H' q=some (.lst (ns.map V.int))/\ZL H' p/\Exc p H H') ⟨[],none,rfl,rfl,Zc,hP.upd hq,(Zg.refl H).Zfv.Zeg hq⟩ ?_ ?_
 ·rintro i σ H' hi ⟨ns,v3,rfl,hlen,hq',P',e'⟩
  walk_at "rd"
  refine⟨Z8 hq',p,_,rfl,by omega,by omega,P',λd H2 d0 d1 P2 e2=>⟨_,d,rfl,e2 _ _ hqp hq',d0,by omega,Yu (show _<=1000 by rw[Yh];omega) (by decide),ns.take d.toNat++(0+(i:Int))::ns.drop d.toNat,?_,?_,P2.Zeg hqp,(e'.trans e2).Zeg hq⟩⟩
  ·simp;omega
  ·rw[Zc];simp
 ·rintro σ H' ⟨ns,v3,rfl,hlen,hq',P',e'⟩
  walk_at "rd"
  exact k1 q ns H' hq (by omega) hq' P' e'
theorem ok__law_row {f:Addr}{fd:FuncData} (F:Fun K "_law_row" "_law_row" s__law_row f fd) (Zq:Callee P w K mg base "_law_take" 1 ["pot","many"] (sp__law_take K mg)) (Zc1:Callee P w K mg base "_law_unlike" 2 ["pot","many"] (sp__law_unlike K mg)) (T:Txt K mg):FnOk P w K mg base (CXE P w) 3 f fd ["pot","most"] (sp__law_row K mg):=by
 refine F.okX sc__law_row (λvs H Q E h=>?_) (λcdv A outer s H vs Q E hr h=>?_)
 ·obtain⟨p,most,rfl,_⟩:=h;rfl
 obtain⟨p,most,rfl,h0,h1,hP,k1⟩:=h
 refine⟨_,(Zd (Zm (i:=2) sc__law_row.nd rfl (Or.inl rfl) (Zk Zq (hr.mono (by decide)) rfl Zy (Za (pv 0) (Za (Zp ZZ (pv 1) Ze) Zb))))
   (Zd (ZK (Zn ZaZ (Zk Zq (hr.mono (by decide)) rfl Zy (Za (pv 0) (Za Ze Zb))) Ze (Zs _)) (Zf (Zm (i:=2) sc__law_row.nd rfl (Or.inl rfl) (pv 1))) Zw)
   (Zd (Zm (i:=3) sc__law_row.nd rfl (Or.inl rfl) (Zk Zq (hr.mono (by decide)) rfl Zy (Za (pv 0) (Za Ze Zb))))
   (Zd (ZK (Zn ZaZ (pv 3) Ze (Zs _)) (Zf (Zu (Zk Zc1 (hr.mono (by decide)) rfl Zy (Za (pv 0) (Za (pv 2) Zb))))) Zw)
   (Zd (Zm (i:=4) sc__law_row.nd rfl (Or.inl rfl) (ZO Zb))
   (Zd (Zag (ZaC PassesOwn.never rfl (Zaa rfl T.b_range (Za (pv 2) Zb)) (Zv (i:=5) sc__law_row.nd rfl (Or.inl rfl)) (Zd (Zm (i:=6) sc__law_row.nd rfl (Or.inl rfl) (Zk Zq (hr.mono (by decide)) rfl Zy (Za (pv 0) (Za (ZF Zbz (Zck (Za Ze (Za Ze Zb))) (ZaK ZjG rfl T.b_int Zl6 (Za (ZcG Zdf (pv 3) Ze (Zs _)) Zb)) (λ_ _=>rfl)) Zb))))
   (Zd (Zm (i:=7) sc__law_row.nd rfl (Or.inl rfl) Ze)
   (Zd (ZK (Zn ZaZ (pv 3) Ze (Zs _)) (Zf (Zm (i:=7) sc__law_row.nd rfl (Or.inl rfl) (Zp ZaM (Zp Zbj (Zk Zq (hr.mono (by decide)) rfl Zy (Za (pv 0) (Za (Zp ZZ (Zp ZaM Ze (Zp Zby Ze Ze)) Ze) Zb))) (Zp Zby Ze Ze)) (Zp Zby Ze Ze)))) Zw)
   (Zf (Z4 (Zcl PySem.F.plainAttrs_list PySem.F.slot_list_append PySem.F.type_list_append ZaL (pv 4) (Za (ZF Zbz (Zck (Za (pv 6) (Za (Zp ZZ (pv 5) (pv 6)) (Za (Zp ZZ (Zp Zbj (pv 2) (pv 5)) (pv 6)) (Za (Zp ZZ (Zp ZaM (Zp ZfF (pv 5) Ze) Ze) (pv 6)) (Za (pv 7) Zb)))))) (pv 3) (λ_ _=>rfl)) Zb)))))))))
   (Zf (Zu (pv 4))))))))),?_⟩
 refine ZQ (fun σ Hx=>∃m:Int,σ=[some (.ref p),some (.int most),some (.int m),none,none,none,none,none]/\0<=m/\m<=most/\ZL Hx p/\Exc p H Hx) (λR hR=>?_) ?_
 ·walk_at "rd"
  exact⟨p,_,rfl,by omega,by omega,hP,λd H1 d0 d1 P1 e1=>hR _ _ ⟨d,rfl,d0,by omega,P1,e1⟩⟩
 rintro σ H1 ⟨m1,rfl,m10,m11,P1,e1⟩
 refine ZQ (fun σ Hx=>∃m:Int,σ=[some (.ref p),some (.int most),some (.int m),none,none,none,none,none]/\0<=m/\m<=most/\ZL Hx p/\Exc p H Hx) (λR hR=>?_) ?_
 ·walk_at "rd"
  refine⟨p,_,rfl,by decide,by decide,P1,λd H2 d0 d1 P2 e2=>⟨rfl,ZE (λ_=>hR _ _ ⟨most,rfl,h0,Int.le_refl _,P2,e1.trans e2⟩) λ_=>hR _ _ ⟨m1,rfl,m10,m11,P2,e1.trans e2⟩⟩⟩
 clear P1 e1 m10 m11 m1 H1
 rintro σ H1 ⟨many,rfl,m0,m1,P1,e1⟩
 refine ZQ (fun σ Hx=>∃k:Int,σ=[some (.ref p),some (.int most),some (.int many),some (.int k),none,none,none,none]/\0<=k/\k<6/\ZL Hx p/\Exc p H Hx) (λR hR=>?_) ?_
 ·walk_at "rd"
  exact⟨p,_,rfl,by decide,by decide,P1,λd H2 d0 d1 P2 e2=>hR _ _ ⟨d,rfl,d0,d1,P2,e1.trans e2⟩⟩
 clear P1 e1 H1
 rintro σ H1 ⟨kd,rfl,d0,d1,P1,e1⟩
 refine ZQ (fun σ Hx=>σ=[some (.ref p),some (.int most),some (.int many),some (.int kd),none,none,none,none]/\kd<5/\Hx=H1) (λR hR=>?_) ?_
 ·walk_at "rd"
  refine ZE (λ_=>⟨p,_,rfl,m0,by omega,P1,λr ns H2 hr2 hl h2 P2 e2=>k1 r ns _ (e1.free (P1.ne hr2) hr2) (by omega) h2 P2 (e1.trans e2)⟩) λz=>hR _ _ ⟨rfl,by omega,rfl⟩
 rintro σ H2 ⟨rfl,d2,rfl⟩
 walk_at "rd"
 refine⟨Yn _,λq hq=>⟨by omega,by omega,?_⟩⟩
 have hqp:q≠p:=P1.ne hq
 have hqH:H q=none:=e1.free hqp hq
 refine Za9 (λi σ H'=>∃(ns:List Int) (v5 v6 v7:Option V),σ=[some (.ref p),some (.int most),some (.int many),some (.int kd),some (.ref q),v5,v6,v7]/\ns.length=i/\H' q=some (.lst (ns.map V.int))/\ZL H' p/\Exc p H H') ⟨[],none,none,none,rfl,rfl,Zc,P1.upd hq,e1.same ((Zg.refl H2).upd hq)⟩ ?_ ?_
 ·rintro i σ H' hi ⟨ns,v5,v6,v7,rfl,hlen,hq',P',e'⟩
  refine ZQ (fun σ Hx=>∃f:Int,σ=[some (.ref p),some (.int most),some (.int many),some (.int kd),some (.ref q),some (.int (0+(i:Int))),some (.int f),v7]/\Hx q=some (.lst (ns.map V.int))/\ZL Hx p/\Exc p H Hx) (λR hR=>?_) ?_
  ·walk_at "rd"
   refine⟨by decide,λu hu=>?_⟩
   obtain⟨v,hv,y,rfl,y0,y1⟩:=Zfk (xs:=[V.int 4,V.int 2]) (i:=if 0<kd then 1 else 0) (λv=>∃y:Int,v=V.int y/\0<y/\y<=4) (by split<;>decide) (by split<;>decide) (by
    intro x hx
    simp at hx
    rcases hx with rfl|rfl<;>exact⟨_,rfl,by decide,by decide⟩)
   have g:=(Zg.refl H').upd (o:=.tup [V.int 4,V.int 2]) hu
   exact⟨_,SqT.of Zc,_,hv,p,y,rfl,y0,by omega,P'.same g,λd H2 d0 d1 P2 e2=>hR _ _ ⟨d,rfl,e2 _ _ hqp (g _ _ hq'),P2,(e'.same g).trans e2⟩⟩
  clear hq' P' e' H'
  rintro σ H' ⟨f,rfl,hq',P',e'⟩
  refine ZQ (fun σ Hx=>∃g:Int,σ=[some (.ref p),some (.int most),some (.int many),some (.int kd),some (.ref q),some (.int (0+(i:Int))),some (.int f),some (.int g)]/\Hx q=some (.lst (ns.map V.int))/\ZL Hx p/\Exc p H Hx) (λR hR=>?_) ?_
  ·walk_at "rd"
   exact hR _ _ ⟨0,rfl,hq',P',e'⟩
  clear hq' P' e' H'
  rintro σ H' ⟨g0,rfl,hq',P',e'⟩
  refine ZQ (fun σ Hx=>∃g:Int,σ=[some (.ref p),some (.int most),some (.int many),some (.int kd),some (.ref q),some (.int (0+(i:Int))),some (.int f),some (.int g)]/\Hx q=some (.lst (ns.map V.int))/\ZL Hx p/\Exc p H Hx) (λR hR=>?_) ?_
  ·walk_at "rd"
   have e9:(10:Int) ^ Int.toNat 9=1000000000:=by decide
   rw[e9]
   exact ZE (λ_=>⟨cp9,ZmP (by decide) (by decide),p,_,rfl,by decide,by decide,P',λd H2 d0 d1 P2 e2=>⟨cp9,d,rfl,cp50,ZmP (by omega) (by omega),hR _ _ ⟨_,rfl,e2 _ _ hqp hq',P2,e'.trans e2⟩⟩⟩) λ_=>hR _ _ ⟨g0,rfl,hq',P',e'⟩
  clear hq' P' e' H'
  rintro σ H' ⟨g1,rfl,hq',P',e'⟩
  walk_at "rd"
  refine⟨Z8 hq',by decide,mul_r (by decide) (by decide),by decide,λu hu=>?_⟩
  obtain⟨v,hv,y,rfl⟩:=Zfk (xs:=[V.int f,V.int (0+(i:Int)+f),V.int (many-(0+(i:Int))+f),V.int ((0+(i:Int)) % 4*2+f),V.int g1]) (i:=kd) (λv=>∃y:Int,v=V.int y) d0 d2 (by
   intro x hx
   simp only[Yl,List.not_mem_nil,or_false]at hx
   rcases hx with rfl|rfl|rfl|rfl|rfl<;>exact⟨_,rfl⟩)
  have g:=(Zg.refl H').upd (o:=.tup [V.int f,V.int (0+(i:Int)+f),V.int (many-(0+(i:Int))+f),V.int ((0+(i:Int)) % 4*2+f),V.int g1]) hu
  refine⟨_,SqT.of Zc,_,hv,_,g _ _ hq',Yu (show _<=1000 by rw[Yh];omega) (by decide),ns++[y],by simp[hlen],by rw[Zc];simp,(P'.same g).Zeg hqp,(e'.same g).Zeg hqH⟩
 ·rintro σ H' ⟨ns,v5,v6,v7,rfl,hlen,hq',P',e'⟩
  walk_at "rd"
  exact k1 q ns H' hqH (by omega) hq' P' e'
theorem ok__law_tree {f:Addr}{fd:FuncData} (F:Fun K "_law_tree" "_law_tree" s__law_tree f fd) (T:Txt K mg):FnOk P w K mg base (CXE P w) 1 f fd ["row"] (sp__law_tree K mg):=by
 refine F.okX sc__law_tree (λvs H Q E h=>?_) (λcdv A outer s H vs Q E hr h=>?_)
 ·obtain⟨r,ns,rfl,_⟩:=h;rfl
 obtain⟨r,ns,rfl,hr0,hn,k1⟩:=h
 refine⟨_,(Zd (Zm (i:=1) sc__law_tree.nd rfl (Or.inl rfl) (ZO Zb))
   (Zd (Zag (ZaC PassesOwn.never rfl (ZpA (K:=K) rfl rfl T.b_enumerate (Za (pv 0) Zb)) (ZfD (n:=2) rfl (ZW (Zv (i:=2) sc__law_tree.nd rfl (Or.inl rfl)) (ZW (Zv (i:=3) sc__law_tree.nd rfl (Or.inr rfl)) Zb3))) (Zd (Zdi (i:=4) ["other","number","row"] [none,some 3,some 0] sc__law_tree.nd rfl (Or.inl rfl) rfl rfl rfl (Zaa rfl T.b_range (Za (pv 2) Zb)) (λ_ _ _ _ _=>(Zv (i:=0) (show(["other","number","row"]:List Str).Nodup from by decide +kernel) rfl (Or.inl rfl))) (λ_ _ _ _ _=>Zef (Zn Zec (ZF (Zno (K:=K) rfl) (pv 2) (pv 0) (λ_ _=>rfl)) (pv 1) (Zs _))) (λ_ _ _ _ _=>(pv 0)) ZP)
   (Zd (Zdi (i:=5) ["other","number","row"] [none,some 3,some 0] sc__law_tree.nd rfl (Or.inl rfl) rfl rfl rfl (Zm8 rfl T.b_range (Za (Zp ZZ (pv 2) Ze) (Za (Zi (Zt (K:=K) rfl) rfl T.b_len Yt (Za (pv 0) Zb)) Zb))) (λ_ _ _ _ _=>(Zv (i:=0) (show(["other","number","row"]:List Str).Nodup from by decide +kernel) rfl (Or.inl rfl))) (λ_ _ _ _ _=>Zef (Zn Zcj (ZF (Zno (K:=K) rfl) (pv 2) (pv 0) (λ_ _=>rfl)) (pv 1) (Zs _))) (λ_ _ _ _ _=>(pv 0)) ZP)
   (Zd (Zm (i:=6) sc__law_tree.nd rfl (Or.inl rfl) (ZF ZA (Zp Zib (ZO (Za (Zbw ZaD Ze) Zb)) (pv 4)) (Zbw ZaD Ze) (λ_ _=>rfl)))
   (Zd (ZK (PW.pt (ZbT (Zn (Zpb (K:=K) rfl hr) (pv 5) (ZO Zb) (Zs _)) (Za2 (PW.pt (Zha (Zn (Zkb (K:=K) rfl hr) (pv 4) (ZO Zb) (Zs _)) (Zd8 (Zn Zju (ZF (Zno (K:=K) rfl) (pv 0) (ZF ZA (pv 5) Ze (λ_ _=>rfl)) (λ_ _=>rfl)) (ZF (Zno (K:=K) rfl) (pv 0) (pv 6) (λ_ _=>rfl)) (Zs _)))))))) (Zf (Zm (i:=6) sc__law_tree.nd rfl (Or.inl rfl) (ZF ZA (pv 5) Ze (λ_ _=>rfl)))) Zw)
   (Zf (Z4 (Zcl PySem.F.plainAttrs_list PySem.F.slot_list_append PySem.F.type_list_append ZaL (pv 1) (Za (pv 6) Zb))))))))))
   (Zf (Zu (ZaK (ZjS (K:=K) rfl) rfl T.b_tuple ZbN (Za (pv 1) Zb)))))),?_⟩
 walk_at "rd"
 have eL:(ns.map V.int).length=ns.length:=Yh ..
 refine⟨Yn _,λl hl=>⟨_,loopQ hr0 ((Zg.refl H).upd hl) λJ go st yl=>?_⟩⟩
 rw[eL]at st
 refine Zek (n:=ns.length) (λi σ Hx=>∃(L:List Int) (v2 v3 v4 v5 v6:Option V),σ=[some (.ref r),some (.ref l),v2,v3,v4,v5,v6]/\L.length=i/\Zg H Hx/\Hx l=some (.lst (L.map V.int))/\∀p,p<i->ZI (nth ns) ns.length p (L.getD p 0)) ⟨[],none,none,none,none,none,rfl,rfl,(Zg.refl H).upd hl,Zc,λp hp=>absurd hp (by omega)⟩ (λi σ Hx hi ⟨_,_,_,_,_,_,_,_,sx,_⟩=>go i Hx sx (by omega)) (fun σ Hx ⟨_,_,_,_,_,_,_,_,sx,_⟩=>st Hx sx) ?_ ?_
 ·rintro i x σ Hx Hx' hi ⟨L,v2,v3,v4,v5,v6,rfl,hL,sx,hxl,hF⟩ y
  obtain⟨q,x,hq,rfl,rfl,ex⟩:=yl i Hx x Hx' sx y
  clear y
  rw[YC,Yi hi]at ex
  cases ex
  have eg:ns[i]=nth ns i:=by simp[nth,Yr,hi]
  rw[eg]
  have g:=(Zg.refl Hx).upd (o:=.tup [.int (i:Int),.int (nth ns i)]) hq
  have tq:(upd Hx q (.tup [.int (i:Int),.int (nth ns i)])) q=some (.tup [.int (i:Int),.int (nth ns i)]):=Zc
  replace sx:=sx.trans g
  replace hxl:=g _ _ hxl
  generalize upd Hx q (.tup [.int (i:Int),.int (nth ns i)])=Hy at sx hxl tq⊢
  clear g hq Hx
  have EE:=Zhe (f:=nth ns) hi
  generalize hA:((List.range i).filter λq=>decide (nth ns q<=nth ns i))=A at EE
  generalize hB:((List.range (ns.length-(i+1))).filter λj=>decide (nth ns (i+1+j)<nth ns i))=B at EE
  have hqa:∀q∈A,q<ns.length:=λq hq=>by
   rw[<-hA]at hq
   have:=Yz.mp (YS.mp hq).1;omega
  have hqb:∀j∈B,i+1+j<ns.length:=λj hq=>by
   rw[<-hB]at hq
   have:=Yz.mp (YS.mp hq).1;omega
  have lA:A.length<=1000:=by rw[<-hA];exact Yf (Y9 _ _) (by simp;omega)
  have lB:B.length<=1000:=by rw[<-hB];exact Yf (Y9 _ _) (by simp;omega)
  refine⟨q,_,rfl,SqT.of tq,rfl,_,_,rfl,_,_,rfl,rfl,?_⟩
  clear tq
  refine ZQ (fun σ Hz=>∃a,σ=[some (.ref r),some (.ref l),some (.int (i:Int)),some (.int (nth ns i)),some (.ref a),v5,v6]/\Zg H Hz/\Hz l=some (.lst (L.map V.int))/\Hz a=some (.lst (ZR A))) (λR hR=>?_) ?_
  ·walk_at "rd"
   refine⟨by omega,by omega,?_⟩
   have e1:((i:Int)).toNat=i:=by omega
   rw[e1]
   refine ZgO (n:=i) (λq=>decide (nth ns q<=nth ns i)) (λq=>V.int ((q:Nat):Int)) (Yu (show _<=1000 by omega) (by decide)) (λj Hx s hj=>hj) (λHx s=>Yd _) ?_ ?_
   ·rintro j x Hx Hz hj s ⟨rfl,rfl⟩
    have e0:((0:Int)+(j:Int))=(j:Int):=by omega
    rw[e0]
    walk_at "rd"
    exact⟨_,(sx.trans s).q hr0,_,Za7 (by omega),_,rfl,ZE (λh=>CF.take hj (YL h) rfl s) (λh=>CF.skip hj (YJ h) s)⟩
   ·intro l1 H1 s1 hl1
    exact hR _ _ ⟨l1,rfl,(sx.trans s1).ZX hl1,(s1.ZX hl1) _ _ hxl,by rw[Zc,hA];rfl⟩
  clear sx hxl Hy
  rintro σ Hx ⟨a,rfl,sx,hxl,hxa⟩
  refine ZQ (fun σ Hy=>∃b,σ=[some (.ref r),some (.ref l),some (.int (i:Int)),some (.int (nth ns i)),some (.ref a),some (.ref b),v6]/\Zg H Hy/\Hy l=some (.lst (L.map V.int))/\Hy a=some (.lst (ZR A))/\Hy b=some (.lst (ZR (B.map λj=>i+1+j)))) (λR hR=>?_) ?_
  ·walk_at "rd"
   refine⟨_,sx.q hr0,by omega,by omega,by omega,by rw[eL];omega,?_⟩
   have e1:((((ns.map V.int).length:Nat):Int)-((i:Int)+1)).toNat=ns.length-(i+1):=by rw[eL];omega
   rw[e1]
   refine ZgO (n:=ns.length-(i+1)) (λq=>decide (nth ns (i+1+q)<nth ns i)) (λq=>V.int ((i+1+q:Nat):Int)) (Yu (show _<=1000 by omega) (by decide)) (λj Hx s hj=>hj) (λHx s=>Yd _) ?_ ?_
   ·rintro j x Hy Hz hj s ⟨rfl,rfl⟩
    have e0:((i:Int)+1+(j:Int))=((i+1+j:Nat):Int):=by omega
    rw[e0]
    walk_at "rd"
    exact⟨_,(sx.trans s).q hr0,_,Za7 (by omega),_,rfl,ZE (λh=>CF.take hj (YL h) rfl s) (λh=>CF.skip hj (YJ h) s)⟩
   ·intro l1 H1 s1 hl1
    exact hR _ _ ⟨l1,rfl,(sx.trans s1).ZX hl1,(s1.ZX hl1) _ _ hxl,(s1.ZX hl1) _ _ hxa,by rw[Zc,hB];simp[ZR,Function.comp_def]⟩
  clear sx hxl hxa Hx
  rintro σ Hx ⟨b,rfl,sx,hxl,hxa,hxb⟩
  have lA':([V.int (-1)]++ZR A).length<=1001:=by rw[YD,ZaN];simp;omega
  refine ZQ (fun σ Hy=>σ=[some (.ref r),some (.ref l),some (.int (i:Int)),some (.int (nth ns i)),some (.ref a),some (.ref b),some (.int (match A.getLast? with|some q=>((q:Nat):Int)|none=>-1))]/\Zg H Hy/\Hy l=some (.lst (L.map V.int))/\Hy a=some (.lst (ZR A))/\Hy b=some (.lst (ZR (B.map λj=>i+1+j)))) (λR hR=>?_) ?_
  ·walk_at "rd"
   refine⟨by decide,λc1 h1=>?_⟩
   have u1:=(Zg.refl Hx).upd (o:=.lst [V.int (-1)]) h1
   refine⟨_,Zc,_,u1 _ _ hxa,Yf (show _<=1001 by rw[<-YD];exact lA') (by decide),λc2 h2=>?_⟩
   have u2:=u1.ZX (o:=.lst ([V.int (-1)]++ZR A)) h2
   refine⟨_,SqL.of Zc,V.int (match A.getLast? with|some q=>((q:Nat):Int)|none=>-1),?_,hR _ _ ⟨rfl,sx.trans u2,u2 _ _ hxl,u2 _ _ hxa,u2 _ _ hxb⟩⟩
   have e:[V.int (-1)]++ZR A=([-1]++A.map λ(q:Nat)=>(q:Int)).map V.int:=by simp[ZR,Function.comp_def]
   rw[e]
   refine Zro ?_
   rcases snoc_cases A with rfl|⟨ys,y,rfl⟩
   ·rfl
   ·rw[YV,<-YX,List.map_singleton,List.getLast?_concat];simp
  clear sx hxl hxa hxb Hx
  rintro σ Hx ⟨rfl,sx,hxl,hxa,hxb⟩
  refine ZQ (fun σ Hy=>∃e,σ=[some (.ref r),some (.ref l),some (.int (i:Int)),some (.int (nth ns i)),some (.ref a),some (.ref b),some (.int e)]/\Zg H Hy/\Hy l=some (.lst (L.map V.int))/\ZI (nth ns) ns.length i e) (λR hR=>?_) ?_
  ·refine ifR (λH1=>Zg Hx H1/\∃j B',B=j::B'/\∀q,A.getLast?=some q->nth ns q<=nth ns (i+1+j)) (λH1=>Zg Hx H1/\(B=[]\/∃j B' q,B=j::B'/\A.getLast?=some q/\nth ns (i+1+j)<nth ns q)) ?_ ?_ ?_
   ·rintro H1 ⟨s1,j,B',rfl,hle⟩
    walk_at "rd"
    refine⟨_,SqL.of (s1 _ _ hxb),V.int ((i+1+j:Nat):Int),Zei (j:=0) rfl,hR _ _ ⟨((i+1+j:Nat):Int),rfl,sx.trans s1,s1 _ _ hxl,?_⟩⟩
    cases hl:A.getLast? with
    |none=>rw[hl]at EE;simpa using EE
    |some q =>
     rw[hl]at EE
     simp only[List.head?_cons,Yc (hle q hl)]at EE
     simpa using EE
   ·rintro H1 ⟨s1,hc⟩
    walk_at "rd"
    refine hR _ _ ⟨_,rfl,sx.trans s1,s1 _ _ hxl,?_⟩
    rcases hc with rfl|⟨j,B',q,rfl,hl,hlt⟩
    ·cases hl:A.getLast? with
     |none=>rw[hl]at EE;simpa using EE
     |some q=>rw[hl]at EE;simpa using EE
    ·rw[hl]at EE⊢
     simp only[List.head?_cons,Yb (show ¬ nth ns q<=nth ns (i+1+j) by omega)]at EE
     simpa using EE
   ·intro B0 hT hU
    walk_at "rd"
    refine⟨Yn _,λc hc=>?_⟩
    have u1:=(Zg.refl Hx).upd (o:=.lst []) hc
    refine⟨_,ZmW (u1 _ _ hxb) Zc,?_⟩
    cases B with
    |nil=>simpa using hU _ ⟨u1,.inl rfl⟩
    |cons j B' =>
     refine ZE (λ_=>⟨Yn _,λd hd=>?_⟩) λz=>absurd z (by simp)
     have u2:=u1.ZX (o:=.lst []) hd
     refine⟨_,ZmW (u2 _ _ hxa) Zc,?_⟩
     rcases snoc_cases A with rfl|⟨ys,y,rfl⟩
     ·exact ZE (λ_=>hT _ ⟨u2,j,B',rfl,λq e=>nomatch e⟩) λz=>absurd z (by simp)
     ·refine ZE (λz=>absurd z (by simp)) λ_=>?_
      have hy:y<ns.length:=hqa y (by simp)
      have hj:i+1+j<ns.length:=hqb j (by simp)
      have ey:(ys++[y]).getLast?=some y:=by simp
      refine⟨_,SqL.of (u2 _ _ hxb),V.int ((i+1+j:Nat):Int),Zei (j:=0) rfl,_,_,rfl,(sx.trans u2).q hr0,_,Za7 hj,_,(sx.trans u2).q hr0,V.int (nth ns y),by rw[ey];exact Za7 hy,_,rfl,_,rfl,?_⟩
      by_cases h:nth ns y<=nth ns (i+1+j)
      ·rw[YL h];exact hT _ ⟨u2,j,B',rfl,λq e=>by rw[ey]at e;cases e;exact h⟩
      ·rw[YJ h];exact hU _ ⟨u2,.inr ⟨j,B',y,rfl,ey,by omega⟩⟩
  clear sx hxl hxa hxb Hx
  rintro σ Hx ⟨ee,rfl,sx,hxl,hE⟩
  walk_at "rd"
  refine⟨Z8 hxl,_,hxl,Yu (show _<=1000 by rw[Yh];omega) (by decide),L++[ee],by simp[hL],sx.upd hl,by rw[Zc];simp,λp hp=>?_⟩
  by_cases e:p=i
  ·subst e
   have:(L++[ee]).getD p 0=ee:=by rw[<-hL];simp[Yr]
   rw[this];exact hE
  ·have:(L++[ee]).getD p 0=L.getD p 0:=by
    simp only[Yr]
    rw[YU (by omega)]
   rw[this];exact hF p (by omega)
 ·rintro σ Hx ⟨L,v2,v3,v4,v5,v6,rfl,hL,sx,hxl,hF⟩
  walk_at "rd"
  exact⟨_,SqL.of hxl,λu H9 zu s9 hu=>k1 u L _ (sx.free zu) ⟨hL,hF⟩ (sx.trans s9) hu⟩
theorem Zkt {f:Addr}{fd:FuncData} (F:Fun K "_law_over" "_law_over" Zbb f fd) (T:Txt K mg):FnOk P w K mg base (CXE P w) 1 f fd ["tree","place"] (ZdC K mg):=by
 refine F.okX Zb8 (λvs H Q E h=>?_) (λcdv A outer s H vs Q E hr h=>?_)
 ·obtain⟨t,T,p,rfl,_⟩:=h;rfl
 obtain⟨t,T',p,rfl,ht,hn,hp,hen,k1⟩:=h
 refine⟨_,(Zd (Zm (i:=2) Zb8.nd rfl (Or.inl rfl) (ZO Zb))
   (Zd (Zm (i:=3) Zb8.nd rfl (Or.inl rfl) (ZF Zbz (pv 0) (pv 1) (λ_ _=>rfl)))
   (Zd (Zag (Zf3 PassesOwn.never (Zn Zju (pv 3) Ze (Zs _)) (Zd (Z4 (Zcl PySem.F.plainAttrs_list PySem.F.slot_list_append PySem.F.type_list_append ZaL (pv 2) (Za (pv 3) Zb)))
   (Zf (Zm (i:=3) Zb8.nd rfl (Or.inl rfl) (ZF Zbz (pv 0) (pv 3) (λ_ _=>rfl)))))))
   (Zf (Zu (pv 2)))))),?_⟩
 walk_at "rd"
 have eL:(T'.map V.int).length=T'.length:=Yh ..
 refine⟨Yn _,λl hl=>⟨_,(((Zg.refl H).upd hl).Zav ht),_,Za7 hp,?_⟩⟩
 refine Zrp (λm σ Hx=>∃(h:Int) (L:List Nat),m+L.length=T'.length/\Za8 T' m h/\L++Z9 T' m h=way T' p/\Zg H Hx/\Hx l=some (.lst (ZR L))/\σ=[some (.ref t),some (.int p),some (.ref l),some (.int h)]) T'.length ⟨nth T' p,[],by simp,hen,rfl,(Zg.refl H).upd hl,Zc,rfl⟩ ?_
 rintro m σ Hx ⟨h,L,hm,he,hw,sx,hxl,rfl⟩
 walk_at "rd"
 refine ZE (λz=>?_) λz=>?_
 ·cases m with
  |zero=>exact absurd (show h=-1 from he) (by omega)
  |succ m =>
   rcases he with he|⟨he1,he2,he3⟩
   ·omega
   ·obtain⟨j,rfl⟩:=YR he1
    have ej:((j:Int)).toNat=j:=by omega
    rw[ej]at he3
    simp only[Z9,Yc (And.intro he1 he2),ej]at hw
    refine⟨_,fun σ' H' z=>z,Z8 hxl,_,hxl,Yu (show _<=1000 by rw[ZaN];omega) (by decide),_,(sx.upd hl).Zav ht,_,Za7 (by omega),m,by omega,nth T' j,L++[j],by simp;omega,he3,by rw[<-hw];simp,sx.upd hl,?_,rfl⟩
    rw[Zc,Zfm];rfl
 ·refine k1 l Hx hl sx ?_
  have:Z9 T' m h=[]:=by
   cases m with
   |zero=>rfl
   |succ m=>simp only[Z9];rw[Yb (by omega)]
  rw[this,List.append_nil]at hw
  rw[hxl,Zej,hw];simp[ZR]
theorem ok_settle {f:Addr}{fd:FuncData} (F:Fun K "settle" "settle" s_settle f fd) (T:Txt K mg):FnOk P w K mg base (CXE P w) 1 f fd ["elders","spine","place","keep"] (sp_settle K mg):=by
 refine F.okX sc_settle (λvs H Q E h=>?_) (λcdv A outer s H vs Q E hr h=>?_)
 ·obtain⟨el,sp,es,A,B,i,rfl,_⟩:=h;rfl
 obtain⟨el,sp,es,A',B,i,rfl,hel,hsp,hne,hi,hq,hlen,k1⟩:=h
 refine⟨_,(Zd (ZK (Zn Zcj (pv 3) (Zi (Zt (K:=K) rfl) rfl T.b_len Yt (Za (pv 1) Zb)) (Zs _)) (Zf (Zbx (pv 2) (ZcU (pv 0) (ZF ZA (pv 1) (pv 3) (λ_ _=>rfl)) set_list (λ_=>rfl)))) Zw)
   (Zd (ZK (Zn Zdf (pv 3) Ze (Zs _)) (Zf (Zbx (ZF ZA (pv 1) (Zp Zbj (pv 3) Ze) (λ_ _=>rfl)) (ZcU (pv 0) (pv 2) set_list (λ_=>rfl)))) Zw)
   (Zd (Zme (pv 1) (pv 3))
   (Zf (Z4 (Zcl PySem.F.plainAttrs_list PySem.F.slot_list_append PySem.F.type_list_append ZaL (pv 1) (Za (pv 2) Zb))))))),?_⟩
 walk_at "rd"
 have hb1:(ZR A').length<sizeLine:=by
  rw[ZaN]
  rw[YD]at hlen
  exact Yu (show _<=1000 by omega) (by decide)
 have etk:List.take A'.length (ZR (A'++B))=ZR A':=by
  rw[Zfm]
  have:A'.length=(ZR A').length:=(ZaN A').symm
  rw[this,List.take_left]
 have hle:A'.length<=(ZR (A'++B)).length:=by rw[ZaN,YD];omega
 have esn:ZR A'++[V.int (i:Nat)]=ZR (A'++[i]):=by rw[Zfm];rfl
 refine⟨_,.inl (SqL.of hsp),?_⟩
 rw[ZaN,YD]
 -- the end: behind the two stores
 have fin:∀(es1:List Int) (Hx:Hp),(∀b o,b≠el->b≠sp->H b=some o->Hx b=some o)->Hx el=some (.lst (es1.map V.int))->Hx sp=some (.lst (ZR (A'++B)))->es1=ZhH es A' B i ->
   ∃(xs:List V) (k:Nat),(A'.length:Int)=(k:Int)/\Hx sp=some (HO.lst xs)/\k<=xs.length/\tyV K "list" (V.ref sp) (upd Hx sp (HO.lst (List.take k xs)))/\∃x,upd Hx sp (HO.lst (List.take k xs)) sp=some (HO.lst x)/\x.length<sizeLine/\Q V.non (upd (upd Hx sp (HO.lst (List.take k xs))) sp (HO.lst (x++[V.int (i:Nat)]))):=by
  intro es1 Hx h1 h2 h3 h4
  refine⟨_,A'.length,rfl,h3,hle,Z8 Zc,_,Zc,by rw[etk];exact hb1,k1 _ (λb o n1 n2 z=>by rw[Zh n2,Zh n2];exact h1 b o n1 n2 z) (by rw[Zh hne,Zh hne,h2,h4]) (by rw[Zc,etk,esn])⟩
 -- elders[place]=spine[keep-1]
 have mid:∀(es1:List Int) (Hx:Hp),(∀b o,b≠el->b≠sp->H b=some o->Hx b=some o)->Hx el=some (.lst (es1.map V.int))->es1.length=es.length->Hx sp=some (.lst (ZR (A'++B)))->∀q,A'.getLast?=some q->es1.set i (q:Int)=ZhH es A' B i ->
   ∃x,SqL K Hx sp x/\∃x_1,atI x ((A'.length:Int)-1)=some x_1/\∃x,Hx el=some (HO.lst x)/\∃x_2,ixN x.length (i:Int)=some x_2/\∃(xs:List V) (k:Nat),(A'.length:Int)=(k:Int)/\upd Hx el (HO.lst (x.set x_2 x_1)) sp=some (HO.lst xs)/\k<=xs.length/\tyV K "list" (V.ref sp) (upd (upd Hx el (HO.lst (x.set x_2 x_1))) sp (HO.lst (List.take k xs))) /\
    ∃x_3,upd (upd Hx el (HO.lst (x.set x_2 x_1))) sp (HO.lst (List.take k xs)) sp=some (HO.lst x_3)/\x_3.length<sizeLine/\Q V.non (upd (upd (upd Hx el (HO.lst (x.set x_2 x_1))) sp (HO.lst (List.take k xs))) sp (HO.lst (x_3++[V.int (i:Nat)]))):=by
  intro es1 Hx h1 h2 hl1 h3 q hq h4
  have hpos:0<A'.length:=by
   cases A' with
   |nil=>cases hq
   |cons _ _=>simp
  have hat:(A'++B)[A'.length-1]?=some q:=by
   rw[YU (by omega)]
   rw[List.getLast?_eq_getElem?]at hq;exact hq
  have ei:((A'.length:Int)-1)=((A'.length-1:Nat):Int):=by omega
  refine⟨_,SqL.of h3,_,by rw[ei];exact Zei hat,_,h2,i,by rw[Yh,hl1];exact Zdz hi,?_⟩
  have em:(es1.map V.int).set i (V.int (q:Nat))=(es1.set i (q:Int)).map V.int:=by rw[List.map_set]
  rw[em]
  exact fin _ _ (λb o n1 n2 z=>by rw[Zh n1];exact h1 b o n1 n2 z) Zc (by rw[Zh hne.symm];exact h3) h4
 cases B with
 |nil =>
  rw[Yb (by simp)]
  cases hq:A'.getLast? with
  |none =>
   have:A'=[]:=List.getLast?_eq_none_iff.mp hq
   rw[Yb (by rw[this];simp)]
   exact fin es H (λb o _ _ z=>z) hel hsp (by unfold ZhH;rw[hq];rfl)
  |some q =>
   have:A'≠[]:=λz=>by rw[z]at hq;cases hq
   rw[Yc (by have:=List.length_pos_iff.mpr this;omega)]
   exact mid es H (λb o _ _ z=>z) hel rfl hsp q hq (by unfold ZhH;rw[hq];rfl)
 |cons b Br =>
  rw[Yc (by simp;omega)]
  have hat:(A'++b::Br)[A'.length]?=some b:=by rw[Y2 (Yd _)];simp
  have hbn:b<es.length:=hq b (by simp)
  refine⟨_,SqL.of hsp,_,Zei hat,_,_,rfl,hel,b,by rw[Yh];exact Zdz hbn,?_⟩
  have em:(es.map V.int).set b (V.int (i:Nat))=(es.set b (i:Int)).map V.int:=by rw[List.map_set]
  rw[em]
  cases hq2:A'.getLast? with
  |none =>
   have:A'=[]:=List.getLast?_eq_none_iff.mp hq2
   rw[Yb (by rw[this];simp)]
   exact fin (es.set b i) _ (λc o n1 n2 z=>by rw[Zh n1];exact z) Zc (by rw[Zh hne.symm];exact hsp) (by unfold ZhH;rw[hq2];rfl)
  |some q =>
   have:A'≠[]:=λz=>by rw[z]at hq2;cases hq2
   rw[Yc (by have:=List.length_pos_iff.mpr this;omega)]
   exact mid (es.set b i) _ (λc o n1 n2 z=>by rw[Zh n1];exact z) Zc (by simp) (by rw[Zh hne.symm];exact hsp) q hq2 (by unfold ZhH;rw[hq2];rfl)
theorem ok_tree_of {f:Addr}{fd:FuncData} (F:Fun K "tree_of" "tree_of" s_tree_of f fd) (ZiF:Callee P w K mg base "settle" 1 ["elders","spine","place","keep"] (sp_settle K mg)) (T:Txt K mg):FnOk P w K mg base (CXE P w) 2 f fd ["row"] (sp_tree_of K mg):=by
 refine F.okX sc_tree_of (λvs H Q E h=>?_) (λcdv A outer s H vs Q E hr h=>?_)
 ·obtain⟨r,ns,rfl,_⟩:=h;rfl
 obtain⟨r,ns,rfl,hS,hn,k1⟩:=h
 refine⟨_,(Zd (Zm (i:=1) sc_tree_of.nd rfl (Or.inl rfl) (Zp ZfG (ZO (Za (Zbw ZaD Ze) Zb)) (Zi (Zt (K:=K) rfl) rfl T.b_len Yt (Za (pv 0) Zb))))
   (Zd (Zm (i:=2) sc_tree_of.nd rfl (Or.inl rfl) (ZO Zb))
   (Zd (Zag (ZaC PassesOwn.never rfl (Zaa rfl T.b_range (Za (Zi (Zt (K:=K) rfl) rfl T.b_len Yt (Za (pv 0) Zb)) Zb)) (Zv (i:=3) sc_tree_of.nd rfl (Or.inl rfl)) (Zd (Zm (i:=4) sc_tree_of.nd rfl (Or.inl rfl) (Zi (Zt (K:=K) rfl) rfl T.b_len Yt (Za (pv 2) Zb)))
   (Zd (Zag (Zf3 PassesOwn.never (PW.pt (ZbT (Zn Zdf (pv 4) Ze (Zs _)) (Za2 (Zn Zdf (ZF (Zno (K:=K) rfl) (pv 0) (ZF ZA (pv 2) (Zp Zbj (pv 4) Ze) (λ_ _=>rfl)) (λ_ _=>rfl)) (ZF (Zno (K:=K) rfl) (pv 0) (pv 3) (λ_ _=>rfl)) (Zs _))))) (Zf (ZfE (i:=4) sc_tree_of.nd rfl (Or.inl rfl) Ze ZoN))))
   (Zf (Z4 (Zk ZiF (hr.mono (by decide)) rfl Zy (Za (pv 1) (Za (pv 2) (Za (pv 3) (Za (pv 4) Zb)))))))))))
   (Zf (Zu (ZaK (ZgL (K:=K) rfl) rfl T.b_tuple ZbN (Za (pv 1) Zb))))))),?_⟩
 walk_at "rd"
 have eL:(ns.map V.int).length=ns.length:=Yh ..
 refine⟨by decide,λp hp=>⟨_,((Zg.refl H).upd hp).q hS,_,Zc,by omega,by rw[eL];omega,?_,λel hel=>⟨Yn _,λsp hsp=>?_⟩⟩⟩
 ·exact Yf (show _<=1000 by simp;omega) (by decide)
 have s0:Zg H (upd (upd (upd H p (.lst [V.int (-1)])) el (.lst (List.replicate (((ns.map V.int).length:Nat):Int).toNat [V.int (-1)]).flatten)) sp (.lst [])):=(((Zg.refl H).upd hp).ZX hel).ZX hsp
 refine⟨_,s0.q hS,by omega,by rw[eL];omega,?_⟩
 have en:(((ns.map V.int).length:Nat):Int).toNat=ns.length:=by rw[eL];omega
 have hel0:(upd (upd (upd H p (.lst [V.int (-1)])) el (.lst (List.replicate (((ns.map V.int).length:Nat):Int).toNat [V.int (-1)]).flatten)) sp (.lst [])) el=some (.lst ((List.replicate ns.length (-1:Int)).map V.int)):=by
  have:=((Zg.refl _).ZX (o:=.lst []) hsp) el _ Zc
  rw[this,en];simp
 have hsp0:(upd (upd (upd H p (.lst [V.int (-1)])) el (.lst (List.replicate (((ns.map V.int).length:Nat):Int).toNat [V.int (-1)]).flatten)) sp (.lst [])) sp=some (.lst (ZR [])):=Zc
 have nes:el≠sp:=λz=>by
  subst z
  rw[Zc]at hsp;cases hsp
 have zel:H el=none:=((Zg.refl H).upd hp).free hel
 have zsp:H sp=none:=(((Zg.refl H).upd hp).ZX hel).free hsp
 rw[en]at hel0 hsp0 s0⊢
 generalize (upd (upd (upd H p (.lst [V.int (-1)])) el (.lst (List.replicate ns.length [V.int (-1)]).flatten)) sp (.lst []))=H0 at s0 hel0 hsp0⊢
 refine Za9 (λi σ Hx=>∃(es:List Int) (S:List Nat) (v3 v4:Option V),σ=[some (.ref r),some (.ref el),some (.ref sp),v3,v4]/\Zg H Hx/\Hx el=some (.lst (es.map V.int))/\Hx sp=some (.lst (ZR S))/\es.length=ns.length/\Zpe (nth ns) i S/\(∀p e,p<i->e=es.getD p 0->ZI (nth ns) i p e)/\∀p,i<=p->p<ns.length->es.getD p 0=-1)
  ⟨List.replicate ns.length (-1),[],none,none,rfl,s0,hel0,hsp0,by simp,⟨List.Pairwise.nil,λq=>by simp⟩,λp e hp=>by omega,λp _ hp=>by simp[Yr,hp]⟩ ?_ ?_
 ·rintro i σ Hx hi ⟨es,S,v3,v4,rfl,sx,hxe,hxs,hesl,hS2,hE,hE2⟩
  walk_at "rd"
  have hin:i<ns.length:=by omega
  have hSl:S.length<=1000:=by
   rcases Zpi S i 0 hS2.1 (λq hq=>⟨Yn _,((hS2.2 q).mp hq).1⟩)with z|z
   ·omega
   ·rw[z];simp
  refine⟨_,.inl (SqL.of hxs),?_⟩
  rw[ZaN]
  refine Zkd S.length (λj σ Hy=>∃A B,S=A++B/\B.length=j/\(∀q∈B,nth ns i<nth ns q)/\σ=[some (.ref r),some (.ref el),some (.ref sp),some (.int (0+(i:Int))),some (.int (A.length:Nat))]/\Hy=Hx) ⟨S,[],by simp,rfl,(λq hq=>absurd hq (by simp)),rfl,rfl⟩ ?_
  rintro j σ Hy hj ⟨A,B,hAB,hBl,hBg,rfl,rfl⟩
  walk_at "rd"
  have hmem:∀q,q∈A++B->q<i:=λq hq=>((hS2.2 q).mp (by rw[hAB];exact hq)).1
  have hix:(0+(i:Int))=(i:Int):=by omega
  rw[hix]
  by_cases hA0:A=[]
  case' pos =>
   rw[Yb (by rw[hA0];simp)]
   have hA:∀q∈A,nth ns q<=nth ns i:=λq hq=>absurd hq (by rw[hA0];simp)
  case' neg =>
   obtain⟨q,Al,rfl⟩:∃q Al,A=Al++[q]:=⟨A.getLast hA0,A.dropLast,(List.dropLast_concat_getLast hA0).symm⟩
   have hal:(Al++[q]).length=Al.length+1:=by simp
   rw[Yc (by rw[hal];omega)]
   have eiA:(((Al++[q]).length:Nat):Int)-1=(Al.length:Int):=by rw[hal];omega
   have hat:S[Al.length]?=some q:=by
    rw[hAB,YX,Y2 (Yd _)];simp
   have hqi:q<i:=hmem q (by simp)
   refine⟨_,SqL.of hxs,_,by rw[eiA];exact Zei hat,_,_,rfl,sx.q hS,_,Za7 (by omega),_,sx.q hS,_,Za7 hin,_,rfl,_,rfl,ZE (λhlt=>?_) (λhge=>?_)⟩
   ·have hj2:j+1<=S.length:=by rw[hAB,YD,hal];omega
    refine⟨_,WI.next,hj2,Al,q::B,by rw[hAB];simp,by simp[hBl],λx hx=>?_,by rw[eiA],rfl⟩
    rcases Yl.mp hx with z|z
    ·rw[z];exact hlt
    ·exact hBg x z
   have hA:∀x∈Al++[q],nth ns x<=nth ns i:=λx hx=>by
    by_cases z:x=q
    ·rw[z];omega
    ·have hxa:x∈Al:=by
      rcases YE.mp hx with y|y
      ·exact y
      ·exact absurd (by simpa using y) z
     have hpw:=hS2.1
     rw[hAB]at hpw
     have hxq:x<q:=(List.pairwise_append.mp (List.pairwise_append.mp hpw).1).2.2 x hxa q (by simp)
     have:=((hS2.2 x).mp (by rw[hAB];exact YN _ hx)).2 q hxq hqi
     omega
   generalize Al++[q]=A at hA hAB hmem hA0⊢
  all_goals
   have SS:=Zmd (f:=nth ns) (i:=i) (A:=A) (B:=B) (by rw[<-hAB];exact hS2) hA hBg
   refine⟨el,sp,es,A,B,i,rfl,hxe,by rw[<-hAB];exact hxs,nes,by omega,λq hq=>by have:=hmem q hq;omega,by rw[<-hAB];exact hSl,λH' q1 q2 q3=>?_⟩
   have hbi:∀b,B.head?=some b->b≠i:=λb hb=>by
    have:=hmem b (Yv _ (List.mem_of_head? hb));omega
   refine⟨λb o z=>q1 b o (Zr z zel) (Zr z zsp) (sx b o z),ZhH es A B i,q2,A++[i],q3,by rw[Zph];exact hesl,SS.1,λp e hp he=>?_,λp hp1 hp2=>?_⟩
   ·rw[ZmU _ _ _ _ _ (by omega) hbi]at he
    by_cases z:p=i
    ·subst z
     rw[Yc rfl,hE2 p (Yd _) (by omega)]at he
     rw[he];exact SS.2.1
    ·rw[Yb z]at he
     rw[he]
     exact SS.2.2 p _ (by omega) (hE p _ (by omega) rfl)
   ·rw[ZmU _ _ _ _ _ (by omega) hbi,Yb (by omega),Yb (λz=>?_)]
    ·exact hE2 p (by omega) hp2
    ·have:=hmem p (Yv _ (List.mem_of_head? z));omega
 ·rintro σ Hx ⟨es,S,v3,v4,rfl,sx,hxe,hxs,hesl,hS2,hE,hE2⟩
  walk_at "rd"
  exact⟨_,.inl ⟨SqL.of hxe,λt ht=>k1 t es _ ⟨hesl,λp hp=>hE p _ hp rfl⟩ (sx.ZX ht) Zc⟩⟩
theorem ok_way_up {f:Addr}{fd:FuncData} (F:Fun K "way_up" "way_up" s_way_up f fd) (T:Txt K mg):FnOk P w K mg base (CXE P w) 1 f fd ["tree","place"] (sp_way_up K mg):=by
 refine F.okX sc_way_up (λvs H Q E h=>?_) (λcdv A outer s H vs Q E hr h=>?_)
 ·obtain⟨t,T,p,rfl,_⟩:=h;rfl
 obtain⟨t,T',p,rfl,ht,hn,hp,k1⟩:=h
 refine⟨_,(Zd (Zm (i:=2) sc_way_up.nd rfl (Or.inl rfl) (ZO Zb))
   (Zd (Zm (i:=3) sc_way_up.nd rfl (Or.inl rfl) (ZF Zbz (pv 0) (pv 1) (λ_ _=>rfl)))
   (Zd (Zag (Zf3 PassesOwn.never (PW.pt (ZbT (Zdg Zec Zcj Ze (pv 3) (Zi (Zt (K:=K) rfl) rfl T.b_len Yt (Za (pv 0) Zb))) (Za2 (Zn Zcj (Zi (Zt (K:=K) rfl) rfl T.b_len Yt (Za (pv 2) Zb)) (Zi (Zt (K:=K) rfl) rfl T.b_len Yt (Za (pv 0) Zb)) (Zs _))))) (Zd (Z4 (Zcl PySem.F.plainAttrs_list PySem.F.slot_list_append PySem.F.type_list_append ZaL (pv 2) (Za (pv 3) Zb)))
   (Zf (Zm (i:=3) sc_way_up.nd rfl (Or.inl rfl) (ZF Zbz (pv 0) (pv 3) (λ_ _=>rfl)))))))
   (Zf (Zu (pv 2)))))),?_⟩
 walk_at "rd"
 refine⟨Yn _,λl hl=>⟨_,(((Zg.refl H).upd hl).Zav ht),_,Za7 hp,?_⟩⟩
 refine Zkd T'.length (λj σ Hx=>Zg H Hx/\Hx l=some (.lst (ZR (Z9 T' j (nth T' p))))/\(Z9 T' j (nth T' p)).length=j/\σ=[some (.ref t),some (.int p),some (.ref l),some (.int (ZaU T' j (nth T' p)))]) ⟨(Zg.refl H).upd hl,Zc,rfl,rfl⟩ ?_
 rintro j σ Hx hj ⟨sx,hxl,hjl,rfl⟩
 walk_at "rd"
 have hlen:(ZR (Z9 T' j (nth T' p))).length=j:=by rw[ZaN];exact hjl
 have eL:(T'.map V.int).length=T'.length:=Yh ..
 have done:(j=T'.length\/¬ (0<=ZaU T' j (nth T' p)/\ZaU T' j (nth T' p)<T'.length))->Q (.ref l) Hx:=λz=>by
  refine k1 l Hx hl sx ?_
  have:Z9 T' T'.length (nth T' p)=Z9 T' j (nth T' p):=by
   rcases z with z|z
   ·rw[<-z]
   ·exact ZjJ T' j _ _ hj hjl z
  rw[hxl];unfold wayI;rw[this];simp[ZR]
 refine ZE (λh0=>⟨_,.inr ((sx.Zav ht)),ZE (λh1=>⟨_,.inl (SqL.of hxl),_,.inr ((sx.Zav ht)),ZE (λh2=>?_) λh2=>done (.inl (by rw[hlen,eL]at h2;omega))⟩) λh1=>done (.inr (by rw[eL]at h1;omega))⟩) λh0=>done (.inr (by omega))
 rw[eL]at h1;rw[hlen,eL]at h2
 obtain⟨a1,a2⟩:=ZjI T' j (nth T' p) h0 h1 hjl
 have ei:ZaU T' j (nth T' p)=(((ZaU T' j (nth T' p)).toNat:Nat):Int):=by omega
 refine⟨_,WI.next,Z8 hxl,_,hxl,by rw[hlen];exact Yu (show _<=1000 by omega) (by decide),_,(sx.upd hl).Zav ht,_,(congrArg (atI _) ei).trans (Za7 (by omega)),by omega,sx.upd hl,?_,?_,?_⟩
 ·rw[Zc,a1,Zfm]
  have:ZR [(ZaU T' j (nth T' p)).toNat]=[V.int (ZaU T' j (nth T' p))]:=by rw[ei];simp[ZR]
  rw[this]
 ·rw[a1];simp[hjl]
 ·rw[a2]
theorem ok_is_tree {f:Addr}{fd:FuncData} (F:Fun K "is_tree" "is_tree" s_is_tree f fd) (Zci:Callee P w K mg base "tree_of" 2 ["row"] (sp_tree_of K mg)) (Zbq:Callee P w K mg base "way_up" 1 ["tree","place"] (sp_way_up K mg)) (T:Txt K mg):FnOk P w K mg base (CXE P w) 3 f fd ["tree"] (sp_is_tree K mg):=by
 refine F.okX sc_is_tree (λvs H Q E h=>?_) (λcdv A outer s H vs Q E hr h=>?_)
 ·obtain⟨t,T,rfl,_⟩:=h;rfl
 obtain⟨t,T',rfl,ht,hn,k1,k2⟩:=h
 refine⟨_,(Zd (ZK (PW.pt (Zha (Zaq (Zbi (Zi (ZjT (K:=K) rfl) rfl T.b_isinstance Zj (Za (pv 0) (Za (Zdr (v:=.ty "tuple") rfl T.b_tuple ZbN rfl) Zb))))) (Zd8 (Zn Zdf (Zi (Zt (K:=K) rfl) rfl T.b_len Yt (Za (pv 0) Zb)) (Zz (v:=.int 40) rfl T.m_MOST_PLACES ⟨_,rfl⟩) (Zs _))))) (Zf (Zu ZcF)) Zw)
   (Zd (Zdi (i:=1) ["place","tree"] [none,some 0] sc_is_tree.nd rfl (Or.inl rfl) rfl rfl rfl (Zaa rfl T.b_range (Za (Zi (Zt (K:=K) rfl) rfl T.b_len Yt (Za (pv 0) Zb)) Zb)) (λ_ _ _ _ _=>(Zv (i:=0) (show(["place","tree"]:List Str).Nodup from by decide +kernel) rfl (Or.inl rfl))) (λ_ _ _ _ _=>Za0) (λ_ _ _ _ _=>(Zi (Zt (K:=K) rfl) rfl T.b_len Yt (Za (Zk Zbq (hr.mono (by decide)) rfl Zy (Za (pv 1) (Za (pv 0) Zb))) Zb))) ZP)
   (Zf (Zu (ZcG (Zkb (K:=K) rfl hr) (Zk Zci (hr.mono (by decide)) rfl Zy (Za (pv 1) Zb)) (pv 0) (Zs _)))))),?_⟩
 walk_at "rd"
 have eL:(T'.map V.int).length=T'.length:=Yh ..
 refine⟨_,ht,_,.inr ht,ZE (λz=>k2 (λg=>?_) _ (Zg.refl H)) λz=>⟨_,.inr ht,by omega,by rw[eL];omega,?_⟩⟩
 ·rw[eL]at z;have:=g.1;omega
 rw[eL]at z⊢
 have en:((T'.length:Nat):Int).toNat=T'.length:=by omega
 rw[en]
 refine comp_map (n:=T'.length) (λq=>V.int (nth (ZfH T') q)) (Yu hn (by decide)) (λj Hx s hj=>hj) (λHx s=>Yd _) ?_ ?_
 ·rintro j x Hx Hy hj s ⟨rfl,rfl⟩
  walk_at "rd"
  refine⟨t,T',j,by simp,s.Zav ht,hn,hj,λl H9 hl s9 h9=>⟨l,rfl,_,.inl (SqL.of h9),CW.next hj ?_ (s.trans s9)⟩⟩
  rw[Zk4 hj,Yh];simp[wayI]
 ·intro l' Hx s hl'
  have ed:(List.range T'.length).map (λq=>V.int (nth (ZfH T') q))=(ZfH T').map V.int:=by
   rw[<-Zgd T'];exact range_getD _ _ V.int _ rfl
  rw[ed]
  have u:=s.ZX (o:=.lst ((ZfH T').map V.int)) hl'
  refine⟨l',ZfH T',rfl,.inl (SqL.of Zc),by rw[Zgd];exact hn,λt2 es H2 hT2 s2 ht2=>⟨t2,rfl,_,Zkc (n:=2) Zgb _ _ es T' (Zdh (SqT.of ht2)) (Zdh (((u.trans s2).Zav ht))),?_⟩⟩
  by_cases g:es=T'
  ·rw[YL g];exact k1 ⟨by omega,_,g▸hT2⟩ _ (u.trans s2)
  ·rw[YJ g];exact k2 (λgg=>g (hT2.unique ((Znt T').mp gg.2))) _ (u.trans s2)
theorem ok_need_tree {f:Addr}{fd:FuncData} (F:Fun K "need_tree" "need_tree" s_need_tree f fd) (Zg2:Callee P w K mg base "is_tree" 3 ["tree"] (sp_is_tree K mg)) (T:Txt K mg):FnOk P w K mg base (CXE P w) 4 f fd ["tree"] (sp_need_tree K mg):=by
 refine F.okX sc_need_tree (λvs H Q E h=>?_) (λcdv A outer s H vs Q E hr h=>?_)
 ·obtain⟨t,T,rfl,_⟩:=h;rfl
 obtain⟨t,T',rfl,ht,hn,k1,k2⟩:=h
 refine⟨_,(Zf (ZK (Zaq (Zbi (Zk Zg2 (hr.mono (by decide)) rfl Zy (Za (pv 0) Zb)))) (Zf (Zf7 rfl rfl T.c_NoTree T.x_NoTree (Za (Zfi (Zb4 (by decide) (ZgK (Zi (Zt (K:=K) rfl) rfl T.b_len Yt (Za (pv 0) Zb)) (Zb4 (by decide) Zj8)))) Zb) ZhX)) Zw)),?_⟩
 walk_at "rd"
 exact⟨t,T',rfl,ht,hn,λg H1 s1=>⟨true,rfl,ZE (λz=>nomatch z) λ_=>k1 g _ s1⟩,λg H1 s1=>⟨false,rfl,ZE (λ_=>⟨_,.inr ((s1.Zav ht)),by omega,by rw[Yh];omega,λy=>⟨by decide,k2 g _ s1⟩⟩) λz=>absurd rfl z⟩⟩
theorem Zku {f:Addr}{fd:FuncData} (F:Fun K "fences_of" "fences_of" Zba f fd) (Zbq:Callee P w K mg base "way_up" 1 ["tree","place"] (sp_way_up K mg)) (T:Txt K mg):FnOk P w K mg base (CXE P w) 2 f fd ["tree"] (sp_fences_of K mg):=by
 refine F.okX ZaS (λvs H Q E h=>?_) (λcdv A outer s H vs Q E hr h=>?_)
 ·obtain⟨t,ns,T,rfl,_⟩:=h;rfl
 obtain⟨t,ns,T',rfl,ht,hT,hn,k1⟩:=h
 refine⟨_,(Zd (Zm (i:=1) ZaS.nd rfl (Or.inl rfl) (ZO Zb))
   (Zd (Zag (ZaC PassesOwn.never rfl (Zaa rfl T.b_range (Za (Zi (Zt (K:=K) rfl) rfl T.b_len Yt (Za (pv 0) Zb)) Zb)) (Zv (i:=2) ZaS.nd rfl (Or.inr rfl)) (Zd (Zm (i:=3) ZaS.nd rfl (Or.inl rfl) (Zk Zbq (hr.mono (by decide)) rfl Zy (Za (pv 0) (Za (pv 2) Zb))))
   (Zd (Zm (i:=4) ZaS.nd rfl (Or.inl rfl) (Zrt (K:=K) rfl rfl rfl T.b_max (Za (Zbn ["elder","place"] [none,some 2] rfl rfl rfl (Zds (pv 3)) (λ_ _ _ _ _=>(Zv (i:=0) (show(["elder","place"]:List Str).Nodup from by decide +kernel) rfl (Or.inl rfl))) (λ_ _ _ _ _=>Zef (Zn Zcj (pv 0) (pv 1) (Zs _))) (λ_ _ _ _ _=>(pv 0)) ZP) Zb) (Zf4 (Zbw ZaD Ze) Zj1)))
   (Zd (Zm (i:=5) ZaS.nd rfl (Or.inl rfl) (Zru (K:=K) rfl rfl rfl T.b_min (Za (Zbn ["elder","place"] [none,some 2] rfl rfl rfl (Zds (pv 3)) (λ_ _ _ _ _=>(Zv (i:=0) (show(["elder","place"]:List Str).Nodup from by decide +kernel) rfl (Or.inl rfl))) (λ_ _ _ _ _=>Zef (Zn Zdf (pv 0) (pv 1) (Zs _))) (λ_ _ _ _ _=>(pv 0)) ZP) Zb) (Zf4 (Zi (Zt (K:=K) rfl) rfl T.b_len Yt (Za (pv 0) Zb)) Zj1)))
   (Zf (Z4 (Zcl PySem.F.plainAttrs_list PySem.F.slot_list_append PySem.F.type_list_append ZaL (pv 1) (Za (Zck (Za (pv 4) (Za (pv 5) Zb))) Zb)))))))))
   (Zf (Zu (pv 1))))),?_⟩
 walk_at "rd"
 have eT:T'.length=ns.length:=hT.1
 have eL:(T'.map V.int).length=T'.length:=Yh ..
 refine⟨Yn _,λp hp=>?_⟩
 have s0:Zg H (upd H p (.lst [])):=(Zg.refl H).upd hp
 refine⟨_,.inr ((s0.Zav ht)),by omega,by rw[eL];omega,?_⟩
 have en:(((T'.map V.int).length:Nat):Int).toNat=ns.length:=by rw[eL];omega
 rw[en]
 have h0:Za3 (upd H p (.lst [])) p 0 (λp=>(ZaX (nth ns) p,Za1 (nth ns) ns.length p)):=⟨[],Zc,rfl,λj q hq=>by simp at hq⟩
 generalize upd H p (.lst [])=H0 at s0 h0⊢
 refine Za9 (λi σ Hx=>∃v2 v3 v4 v5,σ=[some (.ref t),some (.ref p),v2,v3,v4,v5]/\Za3 Hx p i (λp=>(ZaX (nth ns) p,Za1 (nth ns) ns.length p))/\Zg H Hx) ⟨_,_,_,_,rfl,h0,s0⟩ ?_ ?_
 ·rintro i σ Hx hi ⟨v2,v3,v4,v5,rfl,hP,sx⟩
  have e0:((0:Int)+(i:Int))=(i:Int):=by omega
  rw[e0]
  have hpi:i<ns.length:=hi
  have hw1:(wayI T' i).length<=1000:=by simp only[wayI,Yh];exact Yf (Zgf _ _ _) (by omega)
  refine ZQ (fun σ Hy=>∃w:Addr,σ=[some (.ref t),some (.ref p),some (.int (i:Int)),some (.ref w),v4,v5]/\Hy w=some (.lst ((wayI T' i).map V.int))/\Za3 Hy p i (λp=>(ZaX (nth ns) p,Za1 (nth ns) ns.length p))/\Zg H Hy) (λR hR=>?_) ?_
  ·walk_at "rd"
   exact⟨t,T',i,rfl,sx.Zav ht,by omega,by omega,λw H1 hw s1 h1=>hR _ _ ⟨w,rfl,h1,hP.same s1,sx.trans s1⟩⟩
  rintro σ Hy ⟨w,rfl,hw,hP1,sy⟩
  refine ZQ (fun σ Hz=>σ=[some (.ref t),some (.ref p),some (.int (i:Int)),some (.ref w),some (.int (ZaX (nth ns) i)),v5]/\Hz w=some (.lst ((wayI T' i).map V.int))/\Za3 Hz p i (λp=>(ZaX (nth ns) p,Za1 (nth ns) ns.length p))/\Zg H Hz) (λR hR=>?_) ?_
  ·walk_at "rd"
   refine⟨⟨_,SqL.of hw⟩,ZgR (λo=>decide (o<(i:Int))) hw hw1 (λx Hy R hR=>?_) λl H2 s2 hl=>?_⟩
   ·walk_at "rd"
    exact hR
   have FA:=Zpn hT hpi
   have g:=s2.ZX (o:=.lst (((wayI T' i).filter λo=>decide (o<(i:Int))).map V.int)) hl
   refine⟨l,rfl,_,SqL.of Zc,λe=>?_,λhne m hm hmax=>?_⟩
   ·rw[<-FA.1 e]
    exact hR _ _ ⟨rfl,g _ _ hw,hP1.same g,sy.trans g⟩
   ·rw[FA.2 hne m hm hmax]
    exact hR _ _ ⟨rfl,g _ _ hw,hP1.same g,sy.trans g⟩
  clear hw hP1 sy Hy
  rintro σ Hy ⟨rfl,hw,hP1,sy⟩
  refine ZQ (fun σ Hz=>σ=[some (.ref t),some (.ref p),some (.int (i:Int)),some (.ref w),some (.int (ZaX (nth ns) i)),some (.int (Za1 (nth ns) ns.length i))]/\Za3 Hz p i (λp=>(ZaX (nth ns) p,Za1 (nth ns) ns.length p))/\Zg H Hz) (λR hR=>?_) ?_
  ·walk_at "rd"
   refine⟨⟨_,SqL.of hw⟩,ZgR (λo=>decide ((i:Int)<o)) hw hw1 (λx Hy R hR=>?_) λl H2 s2 hl=>?_⟩
   ·walk_at "rd"
    exact hR
   have FB:=Zpo hT hpi
   have g:=s2.ZX (o:=.lst (((wayI T' i).filter λo=>decide ((i:Int)<o)).map V.int)) hl
   refine⟨_,.inr (((sy.trans g).Zav ht)),l,rfl,_,SqL.of Zc,λe=>?_,λhne m hm hmin=>?_⟩
   ·rw[eL,eT,<-FB.1 e]
    exact hR _ _ ⟨rfl,hP1.same g,sy.trans g⟩
   ·rw[FB.2 hne m hm hmin]
    exact hR _ _ ⟨rfl,hP1.same g,sy.trans g⟩
  clear hw hP1 sy Hy
  rintro σ Hy ⟨rfl,hP1,sy⟩
  walk_at "rd"
  obtain⟨qs,hq1,hq2,hq3⟩:=id hP1
  refine⟨Z8 hq1,by decide,λq hq=>?_⟩
  have g:=(Zg.refl Hy).upd (o:=.tup [.int (ZaX (nth ns) i),.int (Za1 (nth ns) ns.length i)]) hq
  obtain⟨xs,hx1,hx2,hx3⟩:=(hP1.same g).push (q:=q) Zc
  have zp:H p=none:=hp
  refine⟨xs,hx1,Yu (show _<=1000 by omega) (by decide),hx3,λb o z=>?_⟩
  rw[Zh (Zr z zp)]
  exact(sy.trans g) b o z
 ·rintro σ Hx ⟨v2,v3,v4,v5,rfl,hP,sx⟩
  walk_at "rd"
  exact k1 p Hx sx hP
theorem Zlq {f:Addr}{fd:FuncData} (F:Fun K "spans_of" "spans_of" ZbA f fd) (Zaf:Callee P w K mg base "need_tree" 4 ["tree"] (sp_need_tree K mg)) (Zes:Callee P w K mg base "fences_of" 2 ["tree"] (sp_fences_of K mg)) (T:Txt K mg):FnOk P w K mg base (CXE P w) 5 f fd ["tree"] (sp_spans_of K mg):=by
 refine F.okX Zlo (λvs H Q E h=>?_) (λcdv A outer s H vs Q E hr h=>?_)
 ·obtain⟨t,T,rfl,_⟩:=h;rfl
 obtain⟨t,T',rfl,ht,hn,k⟩:=h
 refine⟨_,(Zd (Z4 (Zk Zaf (hr.mono (by decide)) rfl Zdw (Za (pv 0) Zb)))
   (Zf (Zu (Zbn ["ahead","behind"] [none,none] rfl rfl rfl (Zds (Zk Zes (hr.mono (by decide)) rfl Zy (Za (pv 0) Zb))) (λ_ _ _ _ _=>(ZmO (K:=K) (n:=2) rfl rfl (ZW (Zv (i:=0) (show(["ahead","behind"]:List Str).Nodup from by decide +kernel) rfl (Or.inl rfl)) (ZW (Zv (i:=1) (show(["ahead","behind"]:List Str).Nodup from by decide +kernel) rfl (Or.inl rfl)) Zb3)))) (λ_ _ _ _ _=>Za0) (λ_ _ _ _ _=>(Zck (Za (Zp ZZ (pv 0) Ze) (Za (Zp Zbj (pv 1) Ze) Zb)))) (ZkY (Zfh ZP (Zfh ZP ZkX))))))),?_⟩
 walk_at "rd"
 refine⟨t,T',rfl,ht,hn,λg H1 s1=>?_,λg H1 s1=>?_⟩
 ·rcases k with⟨ns,h40,hT,k1⟩|⟨ng,_⟩
  ·have eT:=hT.1
   refine⟨t,ns,T',rfl,s1.Zav ht,hT,by omega,λl H2 s2 hP=>⟨l,rfl,?_⟩⟩
   obtain⟨qs,h1,h2,h3⟩:=hP
   refine⟨⟨_,SqL.of h1⟩,?_⟩
   refine Zif (n:=ns.length) (λj acc Hz=>∃as:List Addr,acc=as.map V.ref/\as.length=j/\(∀i (h:i<as.length),Hz as[i]=some (.tup ([ZaX (nth ns) i+1,Za1 (nth ns) ns.length i-1].map V.int)))/\Zg H2 Hz) (Yu (show _<=1000 by omega) (by decide)) ⟨[],rfl,rfl,(λi h=>absurd h (by simp)),Zg.refl _⟩ (λj acc Hz ⟨_,_,_,_,sz⟩ hj=>⟨_,_,SqL.of (sz _ _ h1),Yi (by rw[Yh];omega)⟩) (λacc Hz ⟨_,_,_,_,sz⟩=>⟨_,SqL.of (sz _ _ h1),by rw[Yh];omega⟩) ?_ ?_
   ·rintro j x acc Hz Hw hj hla ⟨as,rfl,hal,hat,sz⟩ ⟨rfl,hx⟩
    have ex:=hx _ (SqL.of (sz _ _ h1))
    obtain⟨q,hq⟩:∃q,qs[j]?=some q:=⟨qs[j]'(by omega),Yi (by omega)⟩
    rw[YC,hq]at ex
    cases ex
    have hq1:=sz _ _ (h3 j q hq)
    dsimp only at hq1
    walk_at "rd"
    refine⟨_,SqT.of hq1,rfl,_,_,rfl,_,_,rfl,rfl,_,rfl,_,rfl,by decide,λu hu=>?_⟩
    have g1:=(Zg.refl Hw).upd (o:=.tup [V.int (ZaX (nth ns) j+1),V.int (Za1 (nth ns) ns.length j-1)]) hu
    refine CA.take hj hla ⟨as++[u],by simp,by simp[hal],λi h=>?_,sz.trans g1⟩
    by_cases e:i<as.length
    ·rw[Jb e];exact g1 _ _ (hat i e)
    ·have:i=as.length:=by simp at h;omega
     subst this
     simp only[List.getElem_concat_length]
     rw[Zc,hal]
   ·rintro l' acc Hz ⟨as,rfl,hal,hat,sz⟩ _ hl'
    have g1:=sz.ZX (o:=.lst (as.map V.ref)) hl'
    refine k1 l' _ ((s1.trans (s2.trans sz)).free hl') (s1.trans (s2.trans g1)) ⟨as,Zc,by simp[spanL,hal],λi i1 i2=>?_⟩
    have:=((Zg.refl Hz).upd (o:=.lst (as.map V.ref)) hl') _ _ (hat i i1)
    rw[this]
    simp[spanL]
  ·exact absurd g ng
 ·rcases k with⟨ns,h40,hT,k1⟩|⟨ng,k2⟩
  ·exact absurd ⟨h40,ns,hT⟩ g
  ·exact k2 _ s1
noncomputable def AheadTo (T:List Int) (j v:Nat):Option Nat->Prop
 |none=>∀c,c<v->c<j->nth T c≠v
 |some c=>c<v/\c<j/\nth T c=v
noncomputable def BehindTo (T:List Int) (j v:Nat):Option Nat->Prop
 |none=>∀c,v<c->c<j->nth T c≠v
 |some c=>v<c/\c<j/\nth T c=v
noncomputable def YTo (H:Hp) (as:List Addr) (T:List Int) (j:Nat):Prop:=∀(v:Nat) (a:Addr),as[v]?=some a->∃ah bh,AheadTo T j v ah/\BehindTo T j v bh/\H a=some (.lst [optN ah,optN bh])
theorem AheadTo.skip {T:List Int}{j v:Nat}{o:Option Nat} (h:AheadTo T j v o) (n:¬ (j<v/\nth T j=v)):AheadTo T (j+1) v o:=by
 cases o with
 |none =>
  intro c c1 c2 e
  by_cases z:c=j
  ·subst z;exact n ⟨c1,e⟩
  ·exact h c c1 (by omega) e
 |some c=>exact⟨h.1,by have:=h.2.1;omega,h.2.2⟩
theorem BehindTo.skip {T:List Int}{j v:Nat}{o:Option Nat} (h:BehindTo T j v o) (n:¬ (v<j/\nth T j=v)):BehindTo T (j+1) v o:=by
 cases o with
 |none =>
  intro c c1 c2 e
  by_cases z:c=j
  ·subst z;exact n ⟨c1,e⟩
  ·exact h c c1 (by omega) e
 |some c=>exact⟨h.1,by have:=h.2.1;omega,h.2.2⟩
theorem YTo.same {H H':Hp}{as:List Addr}{T:List Int}{j:Nat} (h:YTo H as T j) (s:Zg H H'):YTo H' as T j:=λv a e=>by
 obtain⟨ah,bh,h1,h2,h3⟩:=h v a e
 exact⟨ah,bh,h1,h2,s _ _ h3⟩
theorem YTo.skip {H:Hp}{as:List Addr}{T:List Int}{j:Nat} (h:YTo H as T j) (n:∀v:Nat,v<as.length->nth T j≠v):YTo H as T (j+1):=λv a e=>by
 obtain⟨ah,bh,h1,h2,h3⟩:=h v a e
 have hv:=(Yp.mp e).1
 exact⟨ah,bh,h1.skip λz=>n v hv z.2,h2.skip λz=>n v hv z.2,h3⟩
theorem YTo.set {H:Hp}{as:List Addr}{T:List Int}{j q:Nat}{a:Addr}{ah bh:Option Nat} (h:YTo H as T j) (nd:as.Nodup) (ea:as[q]?=some a) (hA:AheadTo T (j+1) q ah) (hB:BehindTo T (j+1) q bh) (eq:nth T j=q):YTo (upd H a (.lst [optN ah,optN bh])) as T (j+1):=λv b e=>by
 by_cases c:v=q
 ·subst c
  rw[ea]at e;cases e
  exact⟨ah,bh,hA,hB,Zc⟩
 ·have nb:b≠a:=λz=>by
   subst z
   obtain⟨h1,e1⟩:=Yp.mp ea
   obtain⟨h2,e2⟩:=Yp.mp e
   exact c ((List.getElem_inj nd (h₀:=h2) (h₁:=h1)).mp (e2.trans e1.symm))
  obtain⟨ah',bh',h1,h2,h3⟩:=h v b e
  exact⟨ah',bh',h1.skip λz=>c (by have:=z.2;omega),h2.skip λz=>c (by have:=z.2;omega),by rw[Zh nb];exact h3⟩
theorem ok_young_of {f:Addr}{fd:FuncData} (F:Fun K "young_of" "young_of" s_young_of f fd) (T:Txt K mg):FnOk P w K mg base (CXE P w) 1 f fd ["tree"] (sp_young_of K mg):=by
 refine F.okX sc_young_of (λvs H Q E h=>?_) (λcdv A outer s H vs Q E hr h=>?_)
 ·obtain⟨t,T,rfl,_⟩:=h;rfl
 obtain⟨t,T',rfl,ht,hG,k1⟩:=h
 refine⟨_,(Zd (Zdi (i:=1) ["place"] [none] sc_young_of.nd rfl (Or.inl rfl) rfl rfl rfl (ZlX (pv 0)) (λ_ _ _ _ _=>(Zv (i:=0) (show(["place"]:List Str).Nodup from by decide +kernel) rfl (Or.inl rfl))) (λ_ _ _ _ _=>Za0) (λ_ _ _ _ _=>(ZO (Za ZcT (Za ZcT Zb)))) ZP)
   (Zd (Zag (ZaC PassesOwn.never rfl (Zk9 (K:=K) rfl rfl T.b_enumerate (Za (pv 0) Zb)) (ZfD (n:=2) rfl (ZW (Zv (i:=2) sc_young_of.nd rfl (Or.inl rfl)) (ZW (Zv (i:=3) sc_young_of.nd rfl (Or.inl rfl)) Zb3))) (Zf (ZK (Zn Zju (pv 3) Ze (Zs _)) (Zf (Zbx (pv 2) (ZcU (ZF ZA (pv 1) (pv 3) (λ_ _=>rfl)) (Zh3 (Zn Zdf (pv 2) (pv 3) (Zs _)) Ze Ze) set_list (λ_=>rfl)))) Zw))))
   (Zf (Zu (pv 1))))),?_⟩
 have h40:=hG.1
 obtain⟨_,nsT,hT⟩:=id hG
 have eT:=hT.1
 have eL:(T'.map V.int).length=T'.length:=Yh ..
 walk_at "rd"
 refine⟨⟨_,ht⟩,Zif (n:=T'.length) (λj acc Hz=>∃as:List Addr,acc=as.map V.ref/\as.length=j/\as.Nodup/\(∀a∈as,Hz a=some (.lst [.non,.non])/\H a=none)/\Zg H Hz) (Yu (show _<=1000 by omega) (by decide)) ⟨[],rfl,rfl,List.nodup_nil,(λa ha=>absurd ha (by simp)),Zg.refl H⟩ (λj acc Hz ⟨_,_,_,_,_,e⟩ hj=>⟨_,_,(e.Zav ht),nthV hj⟩) (λacc Hz ⟨_,_,_,_,_,e⟩=>⟨_,(e.Zav ht),Y3 eL⟩) ?_ ?_⟩
 ·rintro j x acc Hz Hw hj hla ⟨as,rfl,hal,hnd,has,sz⟩ ⟨rfl,hx⟩
  walk_at "rd"
  refine⟨by decide,λp zp=>CA.take hj hla ⟨as++[p],by simp,by simp[hal],?_,λa ha=>?_,sz.ZX zp⟩⟩
  ·rw[List.nodup_append]
   refine⟨hnd,by simp,λa ha b hb=>?_⟩
   have:b=p:=by simpa using hb
   subst this
   exact λz=>by rw[z]at ha;rw[(has _ ha).1]at zp;cases zp
  ·rcases YE.mp ha with z|z
   ·exact⟨((Zg.refl _).upd zp) _ _ (has a z).1,(has a z).2⟩
   ·have:a=p:=by simpa using z
    subst this
    exact⟨Zc,sz.free zp⟩
 rintro y acc Hz ⟨as,rfl,hal,hnd,has,sz⟩ _ zy
 have gy:=(Zg.refl Hz).upd (o:=.lst (as.map V.ref)) zy
 have hyy:=Zc (H:=Hz) (a:=y) (o:=.lst (as.map V.ref))
 have s1:=sz.trans gy
 have zy0:=sz.free zy
 have ny:y∉as:=λz=>by rw[(has _ z).1]at zy;cases zy
 have Y0:YTo (upd Hz y (.lst (as.map V.ref))) as T' 0:=λv a e=>⟨none,none,(λc _ h=>absurd h (by omega)),(λc _ h=>absurd h (by omega)),gy _ _ (has a (List.mem_of_getElem? e)).1⟩
 generalize upd Hz y (.lst (as.map V.ref))=H1 at gy hyy s1 Y0⊢
 refine⟨_,(s1.Zav ht),?_⟩
 refine Zek (n:=T'.length) (λj σ Hx=>∃v2 v3:Option V,σ=[some (.ref t),some (.ref y),v2,v3]/\Hx y=some (.lst (as.map V.ref))/\YTo Hx as T' j/\Zg H Hx) ⟨none,none,rfl,hyy,Y0,s1⟩ (λj σ Hx hj ⟨_,_,_,_,_,e⟩=>⟨_,_,(e.Zav ht),nthV hj⟩) (fun σ Hx ⟨_,_,_,_,_,e⟩=>⟨_,(e.Zav ht),eL⟩) ?_ ?_
 ·rintro j x σ Hx Hw hj ⟨v2,v3,rfl,hyx,Yx,sx⟩ ⟨p,w,zp,rfl,rfl,hx⟩
  have ex:=hx _ ((sx.Zav ht))
  rw[nthV hj]at ex
  cases ex
  walk_at "rd"
  have gp:=(Zg.refl Hx).upd (o:=.tup [V.int (j:Int),V.int (nth T' j)]) zp
  have hp:=Zc (H:=Hx) (a:=p) (o:=.tup [V.int (j:Int),V.int (nth T' j)])
  generalize upd Hx p (.tup [V.int (j:Int),V.int (nth T' j)])=H2 at gp hp⊢
  refine⟨_,SqT.of hp,rfl,_,_,rfl,_,_,rfl,rfl,_,rfl,?_⟩
  have sx2:=sx.trans gp
  have hyx2:=gp _ _ hyx
  have Yx2:=Yx.same gp
  refine ZE (λc0=>?_) λc0=>⟨hyx2,Yx2.skip λv _=>by omega,sx2⟩
  have hq:∃q:Nat,nth T' j=q/\q<T'.length/\q≠j:=by
   rcases ZbO hT (p:=j) (by omega)with z|⟨q,ez,hq,hO,hd⟩
   ·omega
   ·refine⟨q,ez,by omega,λe=>?_⟩
    subst e;omega
  obtain⟨q,eq,hqT,nqj⟩:=hq
  obtain⟨a,ea⟩:∃a,as[q]?=some a:=⟨_,Yi (by omega)⟩
  obtain⟨ah,bh,hA,hB,ha⟩:=Yx2 q a ea
  have na:a≠y:=λz=>ny (z▸List.mem_of_getElem? ea)
  have za:H a=none:=(has a (List.mem_of_getElem? ea)).2
  refine⟨_,_,rfl,SqL.of hyx2,V.ref a,by rw[eq];exact Zbk (by rw[YC,ea];rfl),_,rfl,_,rfl,ZE (λc1=>?_) λc1=>?_⟩
  ·refine⟨a,rfl,_,ha,1,rfl,by rw[Zh na.symm];exact hyx2,?_,sx2.upd za⟩
   exact Yx2.set (ah:=ah) (bh:=some j) hnd ea (hA.skip λz=>by omega) ⟨by omega,by omega,eq⟩ eq
  ·refine⟨a,rfl,_,ha,0,rfl,by rw[Zh na.symm];exact hyx2,?_,sx2.upd za⟩
   exact Yx2.set (ah:=some j) (bh:=bh) hnd ea ⟨by omega,by omega,eq⟩ (hB.skip λz=>by omega) eq
 ·rintro σ Hx ⟨v2,v3,rfl,hyx,Yx,sx⟩
  walk_at "rd"
  refine k1 y Hx zy0 ⟨as,hyx,hal,λv a e=>?_⟩ sx
  obtain⟨ah,bh,h1,h2,h3⟩:=Yx v a e
  refine⟨ah,bh,?_,?_,h3⟩
  ·cases ah with
   |none=>exact h1
   |some c=>exact h1
  ·cases bh with
   |none=>exact h2
   |some c=>exact h2
theorem ok_from_below {f:Addr}{fd:FuncData} (F:Fun K "from_below" "from_below" s_from_below f fd) (Zbq:Callee P w K mg base "way_up" 1 ["tree","place"] (sp_way_up K mg)) (L:LamD K mg "from_below" f) (B:BM mg base) (T:Txt K mg):FnOk P w K mg base (CXE P w) 5 f fd ["tree"] (sp_from_below K mg):=by
 refine F.okL L B sc_from_below (λvs H Q E h=>?_) (λcdv A outer s H vs Q E LI hr h=>?_)
 ·obtain⟨t,T,rfl,_⟩:=h;rfl
 obtain⟨t,T',rfl,ht,hG,hTb,k1⟩:=h
 refine⟨_,(Zf (Zu (ZnM (Nc:=["place","tree"]) (js:=[none,some 0]) (pn:="place") (q:=lamQ "from_below") (P:=Zkh K mg "from_below") rfl hr ⟨rfl,rfl,rfl,rfl,rfl,rfl,rfl,λ_ _ _ _ _ _=>rfl⟩ (λ_ _ _ _ _ _=>(Zi (Zt (K:=K) rfl) rfl T.b_len Yt (Za (Zk Zbq ((hr.in1.in1.deeper _).mono (by decide)) rfl Zy (Za (pv 1) (Za (pv 0) Zb))) Zb))) rfl T.b_sorted (Za (ZjC rfl T.b_range (Za (Zi (Zt (K:=K) rfl) rfl T.b_len Yt (Za (pv 0) Zb)) Zb)) Zb) (Zf4 (pe_lam ⟨LI.code,LI.bm,LI.ql⟩ rfl) (Zf4 ZcF Zj1))))),?_⟩
 walk_at "rd"
 have eL:(T'.map V.int).length=T'.length:=Yh ..
 have h40:=hG.1
 refine⟨_,.inr (ht),by omega,by omega,λp1 hp1=>?_⟩
 rw[eL]
 have g1:=(Zg.refl H).ZX (o:=.rng 0 (T'.length:Int)) hp1
 have h1:=Zc (H:=H) (a:=p1) (o:=.rng 0 (T'.length:Int))
 generalize upd H p1 (.rng 0 (T'.length:Int))=H4 at g1 h1⊢
 refine⟨g1 _ _ hTb,λf1 H5 zf s5 LO=>⟨_,s5 _ _ h1,by omega,by omega,LO,dpI T',λi H6 i0 i1 s6=>?_,λps l H6 hpm hpw s6 zl hl=>k1 l ps H6 ((g1.trans s5).free zl) ((g1.trans s5).trans s6) hpm hpw hl⟩⟩
 obtain⟨j,rfl⟩:=YR i0
 have g6:=(g1.trans s5).trans s6
 exact⟨t,T',j,rfl,g6.Zav ht,by omega,by omega,λw H7 zw s7 hw=>⟨w,rfl,_,.inl (SqL.of hw),by rw[Yh];rfl,s7⟩⟩
theorem ok_running_sums {f:Addr}{fd:FuncData} (F:Fun K "running_sums" "running_sums" s_running_sums f fd) (T:Txt K mg):FnOk P w K mg base (CXE P w) 1 f fd ["numbers"] (sp_running_sums K mg):=by
 refine F.okX sc_running_sums (λvs H Q E h=>?_) (λcdv A outer s H vs Q E hr h=>?_)
 ·obtain⟨a,ns,rfl,_⟩:=h;rfl
 obtain⟨a,ns,rfl,hS,hl,k1⟩:=h
 refine⟨_,(Zd (Zm (i:=1) sc_running_sums.nd rfl (Or.inl rfl) (ZO Zb))
   (Zd (Zm (i:=2) sc_running_sums.nd rfl (Or.inl rfl) Ze)
   (Zd (Zag (ZaC PassesOwn.never rfl (Zds (pv 0)) (Zv (i:=3) sc_running_sums.nd rfl (Or.inl rfl)) (Zd (ZfE (i:=2) sc_running_sums.nd rfl (Or.inl rfl) (pv 3) ZlU)
   (Zf (Z4 (Zcl PySem.F.plainAttrs_list PySem.F.slot_list_append PySem.F.type_list_append ZaL (pv 1) (Za (pv 2) Zb)))))))
   (Zf (Zu (pv 1)))))),?_⟩
 walk_at "rd"
 refine⟨Yn _,λp hp=>⟨⟨_,((Zg.refl H).upd hp).seq hS⟩,ZkS (K:=K) (a:=a) (xs:=ns.map V.int) (λi σ H'=>∃v,σ=[some (.ref a),some (.ref p),some (.int (ns.take i).sum),v]/\Zg H H'/\H' p=some (.lst ((ZG 0 (ns.take i)).map V.int)))
  ⟨none,rfl,(Zg.refl H).upd hp,Zc⟩ (λi σ H' _ ⟨_,_,s,_⟩=>s.seq hS) ?_ ?_⟩⟩
 ·rintro i y σ H' hi ⟨v,rfl,hs,hq⟩
  obtain⟨z,hz,rfl⟩:∃z,ns[i]?=some z/\y=V.int z:=by
   rw[YC]at hi
   cases e:ns[i]? with
   |none=>rw[e]at hi;cases hi
   |some z=>rw[e]at hi;exact⟨z,rfl,(Yy hi).symm⟩
  have hil:i<ns.length:=(Yp.mp hz).1
  have et:ns.take (i+1)=ns.take i++[z]:=by rw[Y6,hz];rfl
  walk_at "rd"
  refine⟨Z8 hq,_,hq,?_,?_,hs.upd hp,?_⟩
  ·rw[Yh,ZbV,YW]
   exact Yu (Yf (Nat.min_le_right _ _) hl) (by decide)
  ·rw[et];simp
  ·rw[Zc,et,ZbU];simp[ZG]
 ·rintro σ H' ⟨v,rfl,hs,hq⟩
  walk_at "rd"
  rw[Yh,List.take_length]at hq
  exact k1 p H' hs hq
theorem ok_need_few {f:Addr}{fd:FuncData} (F:Fun K "need_few" "need_few" s_need_few f fd) (T:Txt K mg):FnOk P w K mg base (CXE P w) 1 f fd ["many","m"] (sp_need_few K mg):=by
 refine F.okX sc_need_few (λvs H Q E h=>?_) (λcdv A outer s H vs Q E hr h=>?_)
 ·obtain⟨n,m,rfl,_⟩:=h;rfl
 obtain⟨n,m,rfl,k1,k2⟩:=h
 refine⟨_,(Zf (ZK (PW.pt (Zha (Zn Zdf (pv 0) (Zz (v:=.int 12) rfl T.m_MOST_FILLED ⟨_,rfl⟩) (Zs _)) (Zd8 (Zaq (Zdg Zec Zec Ze (pv 1) (Zz (v:=.int 12) rfl T.m_MOST_FILLED ⟨_,rfl⟩)))))) (Zf (Zf7 rfl rfl T.c_TooMany T.x_TooMany (Za (Zfi (Zb4 (by decide) (ZgK (Zz (v:=.int 12) rfl T.m_MOST_FILLED ⟨_,rfl⟩) (Zb4 (by decide) (ZgK (Zz (v:=.int 12) rfl T.m_MOST_FILLED ⟨_,rfl⟩) Zj8))))) Zb) ZhX)) Zw)),?_⟩
 have no:¬ ZaV n m->(0:Int)<=12/\(12:Int)<10 ^ 18/\(0:Int)<=12/\(12:Int)<10 ^ 18/\∀(_:Str),0+1<=sizeLine/\E (.ref (clsAt mg (Str.ofString "TooMany"))) none H:=λz=>⟨by decide,by decide,by decide,by decide,λ_=>⟨by decide,k2 z H (Zg.refl H)⟩⟩
 walk_at "rd"
 exact ZE (λz=>no λf=>by have:=f.1;omega) λz=>ZE (λz2=>ZE (λz3=>no λf=>by have:=f.2.2;omega) λz3=>k1 ⟨by omega,z2,by omega⟩) λz2=>no λf=>by have:=f.2.1;omega
theorem ZiE {f:Addr}{fd:FuncData} (F:Fun K "many_orders" "many_orders" ZaA f fd) (ZfK:Callee P w K mg base "spans_of" 5 ["tree"] (sp_spans_of K mg)) (T:Txt K mg):FnOk P w K mg base (CXE P w) 6 f fd ["tree"] (Zcq K mg):=by
 refine F.okX Z1 (λvs H Q E h=>?_) (λcdv A outer s H vs Q E hr h=>?_)
 ·obtain⟨t,T,rfl,_⟩:=h;rfl
 obtain⟨t,T',rfl,ht,hlT,k1',k2⟩:=h
 refine⟨_,(Zd (Zm (i:=1) Z1.nd rfl (Or.inl rfl) Ze)
   (Zd (Zm (i:=2) Z1.nd rfl (Or.inl rfl) Ze)
   (Zd (ZaC PassesOwn.leaving rfl (ZpB (K:=K) rfl rfl T.b_enumerate (Za (Zk ZfK (hr.mono (by decide)) rfl Zdw (Za (pv 0) Zb)) Zb) (Zf4 Ze Zj1)) (ZfD (n:=2) rfl (ZW (Zv (i:=3) Z1.nd rfl (Or.inl rfl)) (ZW (ZfD (n:=2) rfl (ZW (Zv (i:=4) Z1.nd rfl (Or.inl rfl)) (ZW (Zv (i:=5) Z1.nd rfl (Or.inl rfl)) Zb3))) Zb3))) (Zd (ZfE (i:=1) Z1.nd rfl (Or.inl rfl) (pv 3) Zpc)
   (Zf (ZfE (i:=2) Z1.nd rfl (Or.inl rfl) (Zp ZZ (Zp Zbj (pv 5) (pv 4)) Ze) Zpc))))
   (Zf (Zu (Zp ZpC (pv 1) (pv 2))))))),?_⟩
 by_cases hG:ZT T'
 rotate_left
 ·walk_at "rd"
  exact⟨t,T',rfl,ht,by omega,.inr ⟨hG,λH1 s1=>k2 hG H1 s1⟩⟩
 obtain⟨h40',ns,hT⟩:=id hG
 have h40:ns.length<=40:=by rw[<-hT.1];exact h40'
 have k1:∀H',Zg H H'->Q (.int ((facN ns.length / prodF (szN (nth ns) ns.length) 0 ns.length:Nat):Int)) H':=λH' s'=>k1' hG _ H' s'
 walk_at "rd"
 have eT:=hT.1
 refine⟨t,T',rfl,ht,by omega,.inl ⟨ns,by omega,hT,λl H1 zl s1 hP=>?_⟩⟩
 obtain⟨as,h1,h2,h3⟩:=hP
 have hl2:(spanL (nth ns) ns.length).length=ns.length:=by simp[spanL]
 refine⟨l,rfl,_,SqL.of h1,?_⟩
 refine Zek (n:=ns.length) (λi σ Hx=>∃v3 v4 v5:Option V,σ=[some (.ref t),some (.int (facN i)),some (.int (prodF (szN (nth ns) ns.length) 0 i)),v3,v4,v5]/\Zg H1 Hx) ⟨none,none,none,rfl,Zg.refl _⟩ (λi σ Hx hi ⟨_,_,_,_,sx⟩=>⟨_,_,SqL.of (sx _ _ h1),Yi (by rw[Yh];omega)⟩) (fun σ Hx ⟨_,_,_,_,sx⟩=>⟨_,SqL.of (sx _ _ h1),by rw[Yh];omega⟩) ?_ ?_
 ·rintro i x σ Hx Hx' hi ⟨v3,v4,v5,rfl,sx⟩ ⟨q,x,hq,rfl,rfl,hx⟩
  have ex:=hx _ (SqL.of (sx _ _ h1))
  rw[YC,Yi (by omega)]at ex
  cases ex
  have ha:=sx _ _ (h3 i (by omega) (by omega))
  have es:(spanL (nth ns) ns.length)[i]'(by omega)=[ZaX (nth ns) i+1,Za1 (nth ns) ns.length i-1]:=by simp[spanL]
  rw[es]at ha
  generalize as[i]'(by omega)=b at ha
  have g:=(Zg.refl Hx).upd (o:=.tup [.int ((i:Int)+1),.ref b]) hq
  have tq:(upd Hx q (.tup [.int ((i:Int)+1),.ref b])) q=some (.tup [.int ((i:Int)+1),.ref b]):=Zc
  replace sx:=sx.trans g
  replace ha:=g _ _ ha
  generalize upd Hx q (.tup [.int ((i:Int)+1),.ref b])=Hy at sx ha tq⊢
  have c:=Zaz hT hi
  have ez:Za1 (nth ns) ns.length i-1-(ZaX (nth ns) i+1)+1=((szN (nth ns) ns.length i:Nat):Int):=by unfold szN;omega
  walk_at "rd"
  refine⟨_,SqT.of tq,rfl,_,_,rfl,_,_,rfl,b,rfl,_,SqT.of ha,rfl,_,_,rfl,_,_,rfl,rfl,rfl,_,rfl,mul_r (by omega) (by omega),_,rfl,_,rfl,by rw[ez];exact mul_r (by unfold szN;omega) (by unfold szN;omega),?_,?_,?_⟩
  ·show _=(((i+1)*facN i:Nat):Int)
   rw[Int.natCast_mul,Int.mul_comm];rfl
  ·rw[ez,show prodF (szN (nth ns) ns.length) 0 (i+1)=prodF (szN (nth ns) ns.length) 0 i*szN (nth ns) ns.length (0+i)from rfl,Nat.zero_add,Int.natCast_mul]
  ·exact sx
 ·rintro σ Hx ⟨v3,v4,v5,rfl,sx⟩
  obtain⟨b1,b2⟩:=Zlj hT h40
  walk_at "rd"
  refine⟨⟨by omega,?_⟩,?_⟩
  ·exact b2
  ·rw[<-Int.natCast_ediv];exact k1 _ (s1.trans sx)
theorem ok_span_ways {f:Addr}{fd:FuncData} (F:Fun K "span_ways" "span_ways" s_span_ways f fd) (ZdH:Callee P w K mg base "from_below" 5 ["tree"] (sp_from_below K mg)) (Zao:Callee P w K mg base "running_sums" 1 ["numbers"] (sp_running_sums K mg)) (T:Txt K mg):FnOk P w K mg base (CXE P w) 6 f fd ["tree","young","m"] (sp_span_ways K mg):=by
 refine F.okX sc_span_ways (λvs H Q E h=>?_) (λcdv A outer s H vs Q E hr h=>?_)
 ·obtain⟨t,y,T,m,rfl,_⟩:=h;rfl
 obtain⟨t,y,T',m,rfl,ht,hy,hG,hl,hm,hTb,k1⟩:=h
 refine⟨_,(Zd (Zm (i:=3) sc_span_ways.nd rfl (Or.inr rfl) (ZpK ZcT (Zp ZfG (ZO (Za Ze Zb)) (Zp ZZ (pv 2) Ze))))
   (Zd (Zag (ZaC PassesOwn.never rfl (Zds (Zk ZdH (hr.mono (by decide)) rfl Zy (Za (pv 0) Zb))) (Zv (i:=4) sc_span_ways.nd rfl (Or.inl rfl)) (Zd (Zbx (ZF ZA (pv 1) (pv 4) (λ_ _=>rfl)) (pg_lst (K:=K) rfl (n:=2) rfl (ZW (Zv (i:=5) sc_span_ways.nd rfl (Or.inr rfl)) (ZW (Zv (i:=6) sc_span_ways.nd rfl (Or.inr rfl)) Zb3))))
   (Zd (Zdi (i:=7) ["number","ways","ahead","behind"] [none,some 3,some 5,some 6] sc_span_ways.nd rfl (Or.inl rfl) rfl rfl rfl (Zrv rfl T.b_reversed (Za (ZjC rfl T.b_range (Za (pv 2) Zb)) Zb)) (λ_ _ _ _ _=>(Zv (i:=0) (show(["number","ways","ahead","behind"]:List Str).Nodup from by decide +kernel) rfl (Or.inl rfl))) (λ_ _ _ _ _=>Za0) (λ_ _ _ _ _=>(Zp ZaM (ZF (r:=rIxL K) ZA (Zgo (pv 1) (pv 2) (λ_ _=>rfl)) (Zp ZZ (pv 0) Ze) (λ_ _=>rfl)) (ZF (r:=rIxL K) ZA (Zgo (pv 1) (pv 3) (λ_ _=>rfl)) (pv 0) (λ_ _=>rfl)))) ZP)
   (Zf (ZpI (pv 3) (pv 4) (Znn (K:=K) rfl (Zp Zib (ZO (Za Ze Zb)) (Zk Zao (hr.mono (by decide)) rfl Zy (Za (pv 7) Zb))) (Zbw ZaD Ze)) rfl))))))
   (Zf (Zu (pv 3))))),?_⟩
 obtain⟨h40,nsT,hT⟩:=id hG
 refine ZQ (fun σ Hx=>∃d:Addr,σ=[some (.ref t),some (.ref y),some (.int m),some (.ref d),none,none,none,none]/\H d=none/\WaysAt Hx d 1 m (λ_ _=>0) (λ_=>False)/\Zg H Hx) (λR hR=>?_) ?_
 ·walk_at "rd"
  refine λd hd=>⟨by decide,λp1 h1=>⟨_,Zc,by omega,by omega,?_,λp2 h2=>⟨?_,none,.ref p2,rfl,hR _ _ ⟨d,rfl,hd,⟨_,Zc,Yd 1,⟨p2,rfl,?_⟩,λp z=>z.elim⟩,?_⟩⟩⟩⟩
  ·exact Yf (show _<=1000 by simp;omega) (by decide)
  ·exact((Zg.refl _).ZX h2) _ _ (((Zg.refl _).ZX h1) _ _ Zc)
  ·rw[Zh (λz=>by rw[z]at h2;rw[((Zg.refl _).ZX h1) _ _ Zc]at h2;cases h2),Zc]
   congr 1
   unfold wayL
   rw[show((m:Int)+1).toNat=m+1 by omega]
   congr 1
   refine List.ext_getElem (by simp) λj j1 j2=>?_
   simp
  ·exact((((Zg.refl H).upd hd).ZX h1).ZX h2).upd hd
 rintro σ H1 ⟨d,rfl,zd,hW,s1⟩
 walk_at "rd"
 refine⟨t,T',rfl,s1.Zav ht,hG,Zb6.same hTb s1,λl ps H2 zl s2 hpm hpw hl2=>⟨l,rfl,⟨_,SqL.of hl2⟩,?_⟩⟩
 have elp:ps.length=T'.length:=by rw[hpm.length_eq];simp[nats]
 have s12:=s1.trans s2
 have ndp:ps.Nodup:=hpm.nodup_iff.mpr (by unfold nats;exact List.pairwise_map.mpr (List.nodup_range.imp λh e=>h (by omega)))
 refine Zek (n:=ps.length) (λi σ Hx=>∃(c:Nat->Nat->Nat) (v4 v5 v6 v7:Option V),σ=[some (.ref t),some (.ref y),some (.int m),some (.ref d),v4,v5,v6,v7]/\WaysAt Hx d (i+1) m c (λp=>∃k,k<i/\ps[k]?=some (p:Int))/\(∀p:Nat,(∃k,k<i/\ps[k]?=some (p:Int))->WayP T' m c (λp=>∃k,k<i/\ps[k]?=some (p:Int)) p)/\Hx l=some (.lst (ps.map V.int))/\Zg H Hx) ⟨λ_ _=>0,none,none,none,none,rfl,?_,(λp ⟨k,hk,_⟩=>absurd hk (by omega)),hl2,s12⟩ (λi σ Hx hi ⟨_,_,_,_,_,_,_,_,h,_⟩=>⟨_,_,SqL.of h,nthV hi⟩) (fun σ Hx ⟨_,_,_,_,_,_,_,_,h,_⟩=>⟨_,SqL.of h,by rw[Yh];exact Yd _⟩) ?_ ?_
 ·obtain⟨kvs,w1,w0,⟨l0,w2,w3⟩,_⟩:=hW
  exact⟨kvs,s2 _ _ w1,w0,⟨l0,w2,s2 _ _ w3⟩,λp ⟨k,hk,_⟩=>absurd hk (by omega)⟩
 ·rintro i x σ Hx Hx' hi ⟨c,v4,v5,v6,v7,rfl,hWx,hC,hlx,sx⟩ ⟨rfl,hx⟩
  have e1:=hx _ (SqL.of hlx)
  rw[nthV hi]at e1
  cases e1
  have hpi:ps[i]?=some (nth ps i):=by unfold nth;rw[Yr,Yi hi];rfl
  have mq:=hpm.mem_iff.mp (nth_mem hi)
  unfold nats at mq
  obtain⟨v,hv,ev⟩:=YH.mp mq
  have hv2:v<T'.length:=by have:=Yz.mp hv;omega
  rw[<-ev]at hpi⊢
  have hnP:¬ ∃k,k<i/\ps[k]?=some (v:Int):=λ⟨k,hk,ek⟩=>by
   obtain⟨a1,a2⟩:=Yp.mp ek
   obtain⟨b1,b2⟩:=Yp.mp hpi
   exact List.pairwise_iff_getElem.mp ndp k i a1 b1 hk (a2.trans b2.symm)
  obtain⟨as,y1,y2,y3⟩:=id hy
  obtain⟨a,ha⟩:∃a,as[v]?=some a:=⟨_,Yi (by omega)⟩
  obtain⟨ah,bh,hA,hB,hab⟩:=y3 v a ha
  have hAp:∀q,ah=some q->∃k,k<i/\ps[k]?=some (q:Int):=λq e=>by
   subst e;exact kid_first hT hpm hpw hA.2.1 hA.2.2 hpi
  have hBp:∀q,bh=some q->∃k,k<i/\ps[k]?=some (q:Int):=λq e=>by
   subst e;exact kid_first hT hpm hpw hB.2.1 hB.2.2 hpi
  clear mq hx ev hv
  refine ZQ (fun σ Hy=>σ=[some (.ref t),some (.ref y),some (.int m),some (.ref d),some (.int v),some (optN ah),some (optN bh),v7]/\Hy=Hx') (λR hR=>?_) ?_
  ·walk_at "rd"
   exact⟨_,SqL.of (sx _ _ y1),V.ref a,Zbk (by rw[YC,ha];rfl),a,rfl,_,SqL.of (sx _ _ hab),rfl,_,_,rfl,_,_,rfl,rfl,hR _ _ ⟨rfl,rfl⟩⟩
  rintro σ Hy ⟨rfl,rfl⟩
  have hcol:∀(o:Option Nat),(∀q,o=some q->∃k,k<i/\ps[k]?=some (q:Int))->∀Hz,Zg Hy Hz->∃(kvs:List (KO×V)) (k:KO) (b:Addr),Hz d=some (.ext (Zd5 d kvs))/\optN o=oV k/\Zak kvs k=some (.ref b)/\Hz b=some (.lst (wayL m (cOf c o))):=λo ho Hz s=>by
   obtain⟨kvs,w1,_,⟨l0,w2,w3⟩,w4⟩:=id hWx
   cases o with
   |none=>exact⟨kvs,none,l0,s _ _ w1,rfl,w2,s _ _ w3⟩
   |some q =>
    obtain⟨b,b1,b2⟩:=w4 q (ho q rfl)
    exact⟨kvs,some (q:Int),b,s _ _ w1,rfl,b1,s _ _ b2⟩
  refine ZQ (fun σ Hz=>∃e:Addr,σ=[some (.ref t),some (.ref y),some (.int m),some (.ref d),some (.int v),some (optN ah),some (optN bh),some (.ref e)]/\Hz e=some (.lst ((eachL (cOf c ah) (cOf c bh) m).map V.int))/\Zg Hy Hz) (λR hR=>?_) ?_
  ·walk_at "rd"
   refine⟨by omega,by omega,λp hp=>⟨0,m,Zc,by decide,by decide,by omega,by omega,?_⟩⟩
   rw[show((m:Int)-0).toNat=m by omega]
   have g:=(Zg.refl Hy).upd (o:=.rng 0 (m:Int)) hp
   have hbits:∀o:Option Nat,(∀q,o=some q->∃k,k<i/\ps[k]?=some (q:Int))->∀j,j<=m->cOf c o j<2 ^ 100000:=λo ho j hj=>by
    cases o with
    |none=>exact Nat.one_lt_two_pow (n:=100000) (by decide)
    |some q =>
     have:=way_bits hT hm (P:=λp=>∃k,k<i/\ps[k]?=some (p:Int)) (λp hp=>⟨by
      obtain⟨k,_,ek⟩:=hp
      have:=hpm.mem_iff.mp (List.mem_of_getElem? ek)
      unfold nats at this
      obtain⟨z,hz,ez⟩:=YH.mp this
      have:=Yz.mp hz
      omega,hC p hp⟩) 12 q (ho q rfl) (by omega) j hj
     exact Ys this (Nat.pow_le_pow_right (by decide) (bitF_le 12 (by decide)))
   refine comp_map (n:=m) (λk=>V.int ((cOf c ah (m-k)*cOf c bh (m-1-k):Nat):Int)) (Yu (show _<=1000 by omega) (by decide)) (λj Hz s hj=>hj) (λHz s=>Yd _) ?_ ?_
   ·rintro k x Hz Hw hk s ⟨rfl,rfl⟩
    rw[show((0:Int)+(m:Int)-1-(k:Int))=((m-1-k:Nat):Int) by omega]
    walk_at "rd"
    obtain⟨kvs1,k1',b1,u1,u2,u3,u4⟩:=hcol ah hAp Hw (g.trans s)
    obtain⟨kvs2,k2',b2,u5,u6,u7,u8⟩:=hcol bh hBp Hw (g.trans s)
    refine⟨_,u1,_,u2,_,u3,b1,rfl,_,SqL.of u4,_,by rw[show(((m-1-k:Nat):Int)+1)=((m-k:Nat):Int) by omega];exact wayL_at (by omega),_,u5,_,u6,_,u7,b2,rfl,_,SqL.of u8,_,wayL_at (by omega),_,rfl,_,rfl,mulBig (hbits ah hAp _ (by omega)) (hbits bh hBp _ (by omega)),CW.next hk (by rw[Int.natCast_mul]) s⟩
   ·intro l2 Hz s hl2
    have e1:(List.range m).map (λk=>V.int ((cOf c ah (m-k)*cOf c bh (m-1-k):Nat):Int))=(eachL (cOf c ah) (cOf c bh) m).map V.int:=by simp[eachL,Function.comp_def]
    exact hR _ _ ⟨l2,rfl,by rw[Zc,e1],(g.trans s).ZX hl2⟩
  rintro σ Hz ⟨e,rfl,he,sz⟩
  walk_at "rd"
  refine⟨by decide,λp hp=>⟨e,eachL (cOf c ah) (cOf c bh) m,rfl,SqL.of (((Zg.refl Hz).upd hp) _ _ he),by simp[eachL];omega,λl2 H2' s2' hl2'=>⟨l2,rfl,_,s2' _ _ Zc,_,hl2',?_,λp2 hp2=>⟨_,SqL.of Zc,λp3 hp3=>?_⟩⟩⟩⟩
  ·rw[Yh,ZbV]
   exact Yf (show _<=1000 by simp[eachL];omega) (by decide)
  have eR:([V.int 0]++(ZG 0 (eachL (cOf c ah) (cOf c bh) m)).map V.int).reverse=wayL m λj=>colS (cOf c ah) (cOf c bh) m (m-j):=by
   rw[<-wayL_of,List.map_reverse];rfl
  rw[eR]at *
  have sA:=((((sz.ZX (o:=.lst [V.int 0]) hp).trans s2').ZX (o:=.lst ([V.int 0]++(ZG 0 (eachL (cOf c ah) (cOf c bh) m)).map V.int)) hp2).ZX (o:=.lst (wayL m λj=>colS (cOf c ah) (cOf c bh) m (m-j))) hp3)
  have h3:=Zc (H:=upd H2' p2 (.lst ([V.int 0]++(ZG 0 (eachL (cOf c ah) (cOf c bh) m)).map V.int))) (a:=p3) (o:=.lst (wayL m λj=>colS (cOf c ah) (cOf c bh) m (m-j)))
  generalize upd (upd H2' p2 (.lst ([V.int 0]++(ZG 0 (eachL (cOf c ah) (cOf c bh) m)).map V.int))) p3 (.lst (wayL m λj=>colS (cOf c ah) (cOf c bh) m (m-j)))=Hc at sA h3⊢
  obtain⟨kvs,w1,w0,⟨l0,w2,w3⟩,w4⟩:=id hWx
  have split:∀p:Nat,(∃k,k<i+1/\ps[k]?=some (p:Int))->(∃k,k<i/\ps[k]?=some (p:Int))\/p=v:=λp ⟨k,hk,ek⟩=>by
   by_cases z:k=i
   ·subst z;rw[hpi]at ek;exact .inr (by have:=Yy ek;omega)
   ·exact .inl ⟨k,by omega,ek⟩
  have up:∀p:Nat,(∃k,k<i/\ps[k]?=some (p:Int))->∃k,k<i+1/\ps[k]?=some (p:Int):=λp ⟨k,hk,ek⟩=>⟨k,by omega,ek⟩
  refine⟨kvs,sA _ _ w1,some (v:Int),rfl,Yu (show _<=1000 by omega) (by decide),setC c v λj=>colS (cOf c ah) (cOf c bh) m (m-j),?_,λp hp2=>?_,?_,(sx.trans sA).upd zd⟩
  ·exact WaysAt.put (sA _ _ w1) w0 ⟨l0,w2,sA _ _ w3⟩ (λp hp=>let ⟨l,a1,a2⟩:=w4 p hp;⟨l,a1,sA _ _ a2⟩) h3 hnP split
  ·by_cases z:p=v
   ·subst z
    exact WayP.new hA hB hAp hBp hnP up
   ·exact(hC p ((split p hp2).resolve_right z)).keep z hnP up
  ·have hlc:=sA _ _ hlx
   rw[Zh (λz=>by rw[z,sA _ _ w1]at hlc;cases hlc)]
   exact hlc
 ·rintro σ Hx ⟨c,v4,v5,v6,v7,rfl,hWx,hC,hlx,sx⟩
  walk_at "rd"
  have hall:∀p:Nat,p<T'.length->∃k,k<ps.length/\ps[k]?=some (p:Int):=λp hp=>by
   have hm:(p:Int)∈ps:=hpm.mem_iff.mpr (YH.mpr ⟨p,Yz.mpr (by omega),rfl⟩)
   obtain⟨k,hk,ek⟩:=Y4 hm
   exact⟨k,hk,by rw[Yi hk,ek]⟩
  refine k1 d c Hx zd sx (λp hp=>?_) ?_
  ·obtain⟨ah,bh,h1,h2,_,_,h5⟩:=hC p (hall p hp)
   exact⟨ah,bh,h1,h2,h5⟩
  ·obtain⟨kvs,w1,w0,w2,w3⟩:=hWx
   exact⟨kvs,w1,by omega,w2,λp hp=>w3 p (hall p hp)⟩
theorem ZrK {m j:Nat}{g:Nat->Nat} (h:j<m):atI (ZaY m g) (j:Int)=some (V.int ((g j:Nat):Int)):=Zbk (by simp[ZaY,h])
theorem Zlr (m:Nat) (g:Nat->Nat):(ZaY m g).length=m:=by simp[ZaY]
theorem Zls {r:List Nat}{j:Nat} (h:j<r.length):atI (ZbR r) (j:Int)=some (V.int ((fnR r j:Nat):Int)):=Zbk (by simp[ZbR,fnR,Yr,h])
theorem ZpP {r:List Nat}{m j:Nat} (hr:∀i∈r,i<m) (h:j<r.length):fnR r j<m:=by
 have e:fnR r j=r[j]:=by simp[fnR,Yr,h]
 rw[e];exact hr _ (YY h)
theorem Zlt {p:Addr}{H:Hp}:Exc p H H:=λ_ _ _ z=>z
theorem ZbE {p:Addr}{H H1 H2:Hp} (a:Exc p H H1) (b:Exc p H1 H2):Exc p H H2:=λd o n z=>b d o n (a d o n z)
theorem ZpQ {m:Nat}{g:Nat->Nat} (h:∀j,g j=1):(List.replicate ((m:Nat):Int).toNat [V.int 1]).flatten=ZaY m g:=by
 rw[show((m:Nat):Int).toNat=m by omega]
 refine List.ext_getElem (by simp[ZaY]) λj j1 j2=>?_
 have e1:(List.replicate m [V.int 1]).flatten=List.replicate m (V.int 1):=by simp
 simp only[e1,List.getElem_replicate]
 simp[ZaY,h]
theorem ZpR {m:Nat} (h:0<m) (g:Nat->Nat):[V.int 0]++ZcV ((ZG 0 ((List.range m).map λj=>((g j:Nat):Int))).map V.int) none (some (-1))=ZaY m (sumTo g):=by
 rw[(Zdn g m).1,Zo9]
 refine List.ext_getElem (by simp[ZaY];omega) λj j1 j2=>?_
 cases j with
 |zero=>simp[ZaY,sumTo]
 |succ j=>simp[ZaY]
theorem ZnX {m x v:Nat} (h:x<=m):(List.replicate ((x:Nat):Int).toNat [V.int 0]).flatten++(List.replicate ((m:Int)-(x:Int)).toNat [V.int (v:Int)]).flatten=ZaY m (λy=>if y<x then 0 else v):=by
 rw[show((x:Nat):Int).toNat=x by omega,show((m:Int)-(x:Int)).toNat=m-x by omega]
 have e1:(List.replicate x [V.int 0]).flatten=List.replicate x (V.int 0):=by simp
 have e2:(List.replicate (m-x) [V.int (v:Int)]).flatten=List.replicate (m-x) (V.int (v:Int)):=by simp
 rw[e1,e2]
 refine List.ext_getElem (by simp[ZaY];omega) λj j1 j2=>?_
 by_cases z:j<x
 ·rw[Jb (by simpa using z)]
  simp[ZaY,z]
 ·rw[Jc (by simp;omega)]
  simp[ZaY,z]
theorem Zdq {f:Addr}{fd:FuncData}{n:Nat} (F:Fun K "outside_ways" "Filling.outside_ways" ZJ f fd) (GM_Filling_outside_by_elder:Zah P w K mg base "Filling" "outside_by_elder" (2+n) ["self","place","elder"] (Z0 n K mg)) (T:Txt K mg):FnOk P w K mg base (CXE P w) (2+n+1) f fd ["self","place"] (ZV (n+1) K mg):=by
 refine F.okX Zbf (λvs H Q E h=>?_) (λcdv A outer s H vs Q E hr h=>?_)
 ·obtain⟨a,T,m,c,r,p,rfl,_⟩:=h;rfl
 obtain⟨a,T',m,c,r,p,rfl,hF,hG,hp,hU,hn,k1⟩:=h
 refine⟨_,(Zd (ZK (pt_cmp (ZnJ (ZoX hr) (pv 1) (Z2 (K:=K) rfl T.cl_Filling T.n_Filling_outsides (pv 0)))) (Zf (Zry (ZoX hr) (Z2 (K:=K) rfl T.cl_Filling T.n_Filling_outsides (pv 0)) (pv 1) (Zem (mg:=mg) rfl GM_Filling_outside_by_elder (hr.mono (by omega)) Zy (pv 0) (Za (pv 1) (Za (ZF Zbz (Z2 (K:=K) rfl T.cl_Filling T.n_Filling_tree (pv 0)) (pv 1) (λ_ _=>rfl)) Zb))) rfl)) Zw)
   (Zf (Zu (Zrx (ZoX hr) (Z2 (K:=K) rfl T.cl_Filling T.n_Filling_outsides (pv 0)) (pv 1) (λ_ _=>rfl))))),?_⟩
 obtain⟨n,rfl⟩:∃n',n=n'+1:=⟨n-1,by omega⟩
 obtain⟨dx,fs,kvs,h1,⟨f1,f2,f3,f4,f5,f6,f7,f8,f9,f10,f11⟩,h3,h4,h5,h6,h7,h8⟩:=hF.1
 have x1:=Zx _ _ h1
 have o1:=Zx _ _ h6
 walk_at "rd"
 refine⟨dx,fs,x1,_,f5,_,rfl,_,Zlc.k o1 (k:=.inl (p:Int)),ZE (λz=>?_) λz=>?_⟩
 ·refine⟨dx,fs,x1,f9,dx,fs,x1,_,f1,_,rfl,_,Zkn (ZjV h3 Zx),_,Zbk (nthV hp),a,T',m,c,r,p,rfl,hF,hG,hp,hU,by omega,λl H1 e1 hF1 hl=>?_⟩
  obtain⟨dx1,fs1,kvs1,g1,⟨j1,j2,j3,j4,j5,j6,j7,j8,j9,j10,j11⟩,g3,g4,g5,g6,g7,g8⟩:=id hF1.1
  have x2:=Zx _ _ g1
  have o2:=Zx _ _ g6
  have nor:a.o≠a.rl:=λz=>by rw[z,Zdx]at g6;cases g6
  have hlen:kvs1.length<sizeLine:=Yu (Yf g7 (Yf (Zm2 _ _) hG.2.1)) (by decide)
  have nx:a.x≠a.o:=λz=>by rw[z,o2]at x2;cases x2
  have hF2:ZbS mg (upd H1 a.o (.dK (putK kvs1 (.inl (p:Int)) (.ref l)))) a T' m c r:=⟨by rw[ZgY nor];exact ZnV hF1.1 g6 hp hU hl,by rw[Zh (λz=>nor z.symm)];exact hF1.2⟩
  refine⟨dx1,fs1,x2,_,j5,_,rfl,_,.inl ⟨kvs1,.inl (p:Int),o2,rfl,hlen,rfl⟩,dx1,fs1,by rw[Zh nx];exact x2,_,j5,_,rfl,_,.inl ⟨_,.inl (p:Int),.inl Zc,rfl,by rw[Zcn,Yc rfl]⟩,k1 l _ (ZbE e1 λb u n z=>by rw[Zh n];exact z) hF2 ?_⟩
  rw[ZgY nor,Zh (λz=>by rw[z,g6]at hl;cases hl)]
  exact hl
 ·cases e:Zak kvs (.inl (p:Int))with
  |none=>rw[e]at z;exact absurd rfl z
  |some v =>
   obtain⟨a1,l,rfl,a3⟩:=h8 p hp v e
   exact⟨dx,fs,x1,_,f5,_,rfl,_,.inl ⟨kvs,.inl (p:Int),.inl o1,rfl,e.symm⟩,k1 l H Zlt hF a3⟩
theorem Zb9 {f:Addr}{fd:FuncData}{n:Nat} (F:Fun K "outside_by_elder" "Filling.outside_by_elder" ZD f fd) (Zao:Callee P w K mg base "running_sums" 1 ["numbers"] (sp_running_sums K mg)) (GM_Filling_outside_ways:Zah P w K mg base "Filling" "outside_ways" (2+n) ["self","place"] (ZV n K mg)) (GM_Filling_onward_ways:Zah P w K mg base "Filling" "onward_ways" (2+n) ["self","place"] (ZY n K mg)) (T:Txt K mg):FnOk P w K mg base (CXE P w) (2+n+1) f fd ["self","place","elder"] (Z0 (n+1) K mg):=by
 refine F.okX Z6 (λvs H Q E h=>?_) (λcdv A outer s H vs Q E hr h=>?_)
 ·obtain⟨a,T,m,c,r,p,rfl,_⟩:=h;rfl
 obtain⟨a,T',m,c,r,p,rfl,hF,hG,hp,hU,hn,k1⟩:=h
 refine⟨_,(Zd (ZK (Zn ZaZ (pv 2) (Zbw ZaD Ze) (Zs _)) (Zf (Zu (Zp ZfG (ZO (Za Ze Zb)) (Z2 (K:=K) rfl T.cl_Filling T.n_Filling_most (pv 0))))) Zw)
   (Zd (ZK (Zn Zdf (pv 2) (pv 1) (Zs _)) (Zf (Zu (Zp Zib (ZO (Za Ze Zb)) (Zf6 ZhV (Zk Zao (hr.mono (by omega)) rfl Zy (Za (Zem (mg:=mg) rfl GM_Filling_onward_ways (hr.mono (by omega)) Zy (pv 0) (Za (pv 2) Zb)) Zb)) ZhT (ZhU (Zbw ZaD Ze)))))) Zw)
   (Zd (Zm (i:=3) Z6.nd rfl (Or.inl rfl) (ZF ZA (Z2 (K:=K) rfl T.cl_Filling T.n_Filling_row (pv 0)) (pv 2) (λ_ _=>rfl)))
   (Zf (Zu (Zp Zib (Zp ZfG (ZO (Za Ze Zb)) (pv 3)) (Zp ZfG (ZO (Za (ZF ZA (Zem (mg:=mg) rfl GM_Filling_outside_ways (hr.mono (by omega)) Zy (pv 0) (Za (pv 2) Zb)) (pv 3) (λ_ _=>rfl)) Zb)) (Zp Zbj (Z2 (K:=K) rfl T.cl_Filling T.n_Filling_most (pv 0)) (pv 3))))))))),?_⟩
 obtain⟨dx,fs,kvs,h1,⟨f1,f2,f3,f4,f5,f6,f7,f8,f9,f10,f11⟩,h3,h4,h5,h6,h7,h8⟩:=id hF.1
 obtain⟨hGT,hl12,hm0,hm12,hW,hrm,hrl⟩:=id hG
 obtain⟨_,ns,hT⟩:=id hGT
 have eN:=hT.1
 have x1:=Zx _ _ h1
 have rl1:=hF.2
 have fresh:∀{b:Addr},H b=none->b≠a.rl:=λ{b} z y=>by rw[y,rl1]at z;cases z
 walk_at "rd"
 refine ZE (λz=>?_) λz=>ZE (λz2=>?_) λz2=>?_
 ·refine⟨by decide,λb hb=>?_⟩
  have g:=(Zg.refl H).upd (o:=.lst [V.int 1]) hb
  refine⟨dx,fs,g _ _ x1,_,f2,_,rfl,_,Zc,by omega,by omega,?_,λb1 hb1=>?_⟩
  ·exact Yf (show _<=1000 by simp;omega) (by decide)
  ·have g2:=g.ZX (o:=.lst (List.replicate ((m:Nat):Int).toNat [V.int 1]).flatten) hb1
   refine k1 b1 _ g2.Zfv (Zas hF g2) ?_
   rw[Zaw (fresh (g.free hb1)),Zc,ZpQ (λj=>ZcY hT hp z)]
 ·rcases way_step hT hp with⟨y,_⟩|⟨e,ye,he,yw⟩
  ·exact absurd y z
  have hpe:p<e:=by omega
  rw[ye]
  refine⟨by decide,λb hb=>?_⟩
  have g:=(Zg.refl H).upd (o:=.lst [V.int 0]) hb
  have hbr:=fresh hb
  refine⟨dx,fs,g _ _ x1,f10,?_⟩
  obtain⟨n,rfl⟩:∃n',n=n'+1:=⟨n-1,by rw[yw,Yq]at hn;omega⟩
  refine⟨a,T',m,c,r,e,rfl,Zas hF g,hG,he,hU.up hT hp ye,by rw[yw,Yq]at hn;omega,λl H1 e1 hF1 hl=>?_⟩
  have nbo:b≠a.o:=λy=>by rw[y,Zx _ _ h6]at hb;cases hb
  have hb1:=e1 _ _ nbo (Zc (H:=H) (a:=b) (o:=.lst [V.int 0]))
  refine⟨l,(List.range m).map (λj=>((nW T' c (fnR r) e j:Nat):Int)),rfl,SqL.of (by rw[<-Zko];exact Zx _ _ hl),by simp;omega,λl2 H2 s2 hl2=>⟨l2,rfl,_,SqL.of hl2,λb2 hb2=>?_⟩⟩
  have g2:=s2.ZX (o:=.lst (ZcV ((ZG 0 ((List.range m).map λj=>((nW T' c (fnR r) e j:Nat):Int))).map V.int) none (some (-1)))) hb2
  refine⟨_,g2 _ _ hb1,_,Zc,?_,λb3 hb3=>?_⟩
  ·refine Yf (show _<=1000 from ?_) (by decide)
   have:=Zed ((ZG 0 ((List.range m).map λj=>((nW T' c (fnR r) e j:Nat):Int))).map V.int) none (some (-1))
   rw[Yh,ZbV,Yh,YZ]at this
   simp only[Yq,List.length_nil];omega
  ·have g3:=g2.ZX (o:=.lst ([V.int 0]++ZcV ((ZG 0 ((List.range m).map λj=>((nW T' c (fnR r) e j:Nat):Int))).map V.int) none (some (-1)))) hb3
   refine k1 b3 _ (ZbE (ZbE g.Zfv e1) g3.Zfv) (Zas hF1 g3) ?_
   rw[Zaw (λy=>by rw[y,g2 _ _ hF1.2]at hb3;cases hb3),Zc,ZpR hm0]
   congr 2
   exact congrArg (ZaY m) (funext λx=>(Zfq hT hp ye hpe).symm)
 ·rcases way_step hT hp with⟨y,_⟩|⟨e,ye,he,yw⟩
  ·exact absurd y z
  rw[ye]
  have npe:e≠p:=λy=>by
   subst y
   have:=(way_nd hT _ e hp (Yd _)).2
   rw[yw]at this
   exact this (by simp)
  have hep:e<p:=by omega
  have her:=hU p (by simp) e ye hep
  have hrem:=ZpP hrm her
  obtain⟨n,rfl⟩:∃n',n=n'+1:=⟨n-1,by rw[yw,Yq]at hn;omega⟩
  refine⟨dx,fs,x1,_,f6,_,rfl,_,SqL.of rl1,_,Zls her,by decide,λb hb=>⟨_,rfl,_,Zc,by omega,by omega,?_,λb1 hb1=>?_⟩⟩
  ·exact Yf (show _<=1000 by simp;omega) (by decide)
  have g:=(Zg.refl H).upd (o:=.lst [V.int 0]) hb
  have g1:=g.ZX (o:=.lst (List.replicate ((fnR r e:Nat):Int).toNat [V.int 0]).flatten) hb1
  refine⟨dx,fs,g1 _ _ x1,f8,a,T',m,c,r,e,rfl,Zas hF g1,hG,he,hU.up hT hp ye,by rw[yw,Yq]at hn;omega,λl H1 e1 hF1 hl=>⟨l,rfl,_,_,rfl,SqL.of (Zx _ _ hl),_,ZrK hrem,by decide,λb2 hb2=>?_⟩⟩
  have nbo:b1≠a.o:=λy=>by rw[y,g _ _ (Zx _ _ h6)]at hb1;cases hb1
  have hc1:=e1 _ _ nbo (Zc (H:=upd H b (.lst [V.int 0])) (a:=b1) (o:=.lst (List.replicate ((fnR r e:Nat):Int).toNat [V.int 0]).flatten))
  have xx:=hF1
  obtain⟨⟨dx1,fs1,kvs1,i1,⟨_,j2,_⟩,_⟩,rl2⟩:=xx
  have g2:=(Zg.refl H1).upd (o:=.lst [V.int ((oW T' c (fnR r) e (fnR r e):Nat):Int)]) hb2
  refine⟨dx1,fs1,g2 _ _ (Zx _ _ i1),_,j2,_,rfl,_,rfl,_,Zc,by omega,by omega,?_,λb3 hb3=>?_⟩
  ·exact Yf (show _<=1000 by simp;omega) (by decide)
  have g3:=g2.ZX (o:=.lst (List.replicate ((m:Int)-((fnR r e:Nat):Int)).toNat [V.int ((oW T' c (fnR r) e (fnR r e):Nat):Int)]).flatten) hb3
  refine⟨_,g3 _ _ hc1,_,Zc,?_,λb4 hb4=>?_⟩
  ·exact Yf (show _<=1000 by simp;omega) (by decide)
  have g4:=g3.ZX (o:=.lst ((List.replicate ((fnR r e:Nat):Int).toNat [V.int 0]).flatten++(List.replicate ((m:Int)-((fnR r e:Nat):Int)).toNat [V.int ((oW T' c (fnR r) e (fnR r e):Nat):Int)]).flatten)) hb4
  refine k1 b4 _ (ZbE (ZbE g1.Zfv e1) g4.Zfv) (Zas hF1 g4) ?_
  rw[Zaw (λy=>by rw[y,g3 _ _ rl2]at hb4;cases hb4),Zc,ZnX (by omega)]
  congr 2
  exact congrArg (ZaY m) (funext λx=>(Zco hT hp ye (by omega)).symm)
theorem Zlu {g:Nat->Nat}{M:Nat}:∀x,(∀y,y<x->g y<=M)->sumTo g x<=x*M
 |0,_=>Yn _
 |x+1,h=>by
  have h1:=Zlu x λy hy=>h y (by omega)
  have h2:=h x (by omega)
  show sumTo g x+g x<=(x+1)*M
  rw[Nat.add_mul,Nat.one_mul];omega
theorem oW_le {ns T:List Int} (hT:Zl ns T) {c:Nat->Nat->Nat}{f:Nat->Nat}{m B X:Nat} (hm:m<=12) (hf:∀e,f e<=m) (hX:12*B<=X) (hX1:1<=X) (hc:∀p j,p<T.length->j<=m->cOf c (kidB T p) j<=B):∀d p x,p<T.length->(way T p).length<=d->x<=m->oW T c f p x<=X ^ d:=by
 intro d
 induction d with
 |zero =>
  intro p x hp hd hx
  rcases way_step hT hp with⟨z,_⟩|⟨q,z,hq,zw⟩
  ·rw[ZcY hT hp z];exact Yd _
  ·rw[zw]at hd;simp at hd
 |succ d ih =>
  intro p x hp hd hx
  have h1:1<=X ^ (d+1):=Nat.pow_le_pow_left hX1 (d+1) |> Yf (by rw[Nat.one_pow];exact Yd 1)
  rcases way_step hT hp with⟨z,_⟩|⟨q,z,hq,zw⟩
  ·rw[ZcY hT hp z];exact h1
  ·have hd2:(way T q).length<=d:=by rw[zw,Yq]at hd;omega
   have hs:X ^ d<=X ^ (d+1):=Nat.pow_le_pow_right hX1 (by omega)
   by_cases hl:p<q
   ·rw[Zfq hT hp z hl]
    refine Yf (Zlu (M:=X ^ d*B) x λy hy=>Nat.mul_le_mul (ih q y hq hd2 (by omega)) (hc q y hq (by omega))) ?_
    rw[Nat.pow_succ]
    refine Yf (Nat.mul_le_mul_right _ (show x<=12 by omega)) ?_
    rw[Nat.mul_left_comm]
    exact Nat.mul_le_mul_left _ hX
   ·rw[Zco hT hp z (by omega)]
    split
    ·omega
    ·exact Yf (ih q _ hq hd2 (hf q)) hs
theorem ZpS {ns T:List Int}{m:Nat}{c:Nat->Nat->Nat} (hT:Zl ns T) (hm:m<=12) (hl:T.length<=12) (hW:WaysIs T m c) (p j:Nat) (hj:j<=m):cOf c (kidB T p) j<2 ^ 20476:=by
 cases e:kidB T p with
 |none=>exact Nat.one_lt_two_pow (n:=20476) (by decide)
 |some q =>
  have:=way_bits hT hm (P:=λp=>p<T.length) (λp hp=>⟨hp,by
   obtain⟨a,b,x1,x2,x3⟩:=hW p hp
   exact⟨a,b,x1,x2,(λq e=>by subst e;exact x1.2.1),(λq e=>by subst e;exact x2.2.1),x3⟩⟩) 12 q (ZgX e).2.1 (by omega) j hj
  exact Ys this (Nat.pow_le_pow_right (by decide) (show bitF 12<=20476 by decide))
theorem oW_ok {ns T:List Int}{m:Nat}{c:Nat->Nat->Nat}{f:Nat->Nat} (hT:Zl ns T) (hm:m<=12) (hl:T.length<=12) (hW:WaysIs T m c) (hf:∀e,f e<=m) {p x:Nat} (hp:p<T.length) (hx:x<=m):IntMulOk ((oW T c f p x:Nat):Int) ((cOf c (kidB T p) x:Nat):Int):=by
 have h1:=oW_le hT (c:=c) (f:=f) (B:=2 ^ 20476) (X:=2 ^ 20480) hm hf (by rw[show 20480=20476+4 from rfl,Nat.pow_add,Nat.mul_comm];exact Nat.mul_le_mul_left _ (by decide)) (Nat.one_le_two_pow) (λp j _ hj=>YI (ZpS hT hm hl hW p j hj)) 12 p x hp (Yf (YI (Zmt hT hp)) hl) hx
 have h2:=ZpS hT hm hl hW p x hx
 rw[<-Nat.pow_mul]at h1
 have h3:oW T c f p x<2 ^ 300000:=Yu h1 (Nat.pow_lt_pow_right (by decide) (by decide))
 exact ZhY (Yf ((intBits_le_iff (m:=300000)).mpr h3) (by decide)) (Yf ((intBits_le_iff (m:=20476)).mpr h2) (by decide))
theorem ZpT {r:List Nat}{m:Nat} (hr:∀i∈r,i<m) (j:Nat):fnR r j<=m:=by
 by_cases h:j<r.length
 ·exact YI (ZpP hr h)
 ·simp[fnR,Yr,List.getElem?_eq_none (Nat.le_of_not_lt h)]
theorem ZnY {S:Hp}{d:Addr}{T:List Int}{m:Nat}{c:Nat->Nat->Nat} (hW:WaysAt S d 13 m c (λp=>p<T.length)) (p:Nat):∃(kvs:List (KO×V)) (k:KO) (b:Addr),S d=some (.ext (Zd5 d kvs))/\optN (kidB T p)=oV k/\Zak kvs k=some (.ref b)/\S b=some (.lst (wayL m (cOf c (kidB T p)))):=by
 obtain⟨kvs,w1,_,⟨l0,w2,w3⟩,w4⟩:=hW
 cases e:kidB T p with
 |none=>exact⟨kvs,none,l0,w1,rfl,w2,w3⟩
 |some q =>
  obtain⟨b,b1,b2⟩:=w4 q (ZgX e).2.1
  exact⟨kvs,some (q:Int),b,w1,rfl,b1,b2⟩
theorem ZdG {f:Addr}{fd:FuncData}{n:Nat} (F:Fun K "onward_ways" "Filling.onward_ways" ZM f fd) (GM_Filling_outside_ways:Zah P w K mg base "Filling" "outside_ways" (2+n) ["self","place"] (ZV n K mg)) (T:Txt K mg):FnOk P w K mg base (CXE P w) (2+n+1) f fd ["self","place"] (ZY (n+1) K mg):=by
 refine F.okX Zat (λvs H Q E h=>?_) (λcdv A outer s H vs Q E hr h=>?_)
 ·obtain⟨a,T,m,c,r,p,rfl,_⟩:=h;rfl
 obtain⟨a,T',m,c,r,p,rfl,hF,hG,hp,hU,hn,k1⟩:=h
 refine⟨_,(Zd (Zm (i:=2) Zat.nd rfl (Or.inr rfl) (ZF ZA (ZF ZA (Z2 (K:=K) rfl T.cl_Filling T.n_Filling_young (pv 0)) (pv 1) (λ_ _=>rfl)) Ze (λ_ _=>rfl)))
   (Zf (Zu (Zbn ["number","out","behind","self"] [none,none,some 2,some 0] rfl rfl rfl (Zrs (K:=K) rfl rfl T.b_enumerate (Za (Zem (mg:=mg) rfl GM_Filling_outside_ways (hr.mono (by omega)) Zy (pv 0) (Za (pv 1) Zb)) Zb)) (λ_ _ _ _ _=>(ZmO (K:=K) (n:=2) rfl rfl (ZW (Zv (i:=0) (show(["number","out","behind","self"]:List Str).Nodup from by decide +kernel) rfl (Or.inl rfl)) (ZW (Zv (i:=1) (show(["number","out","behind","self"]:List Str).Nodup from by decide +kernel) rfl (Or.inl rfl)) Zb3)))) (λ_ _ _ _ _=>Za0) (λ_ _ _ _ _=>(Zp ZaM (pv 1) (ZF (r:=rIxL K) ZA (Zgo (Z2 (K:=K) rfl T.cl_Filling T.n_Filling_spans (pv 3)) (pv 2) (λ_ _=>rfl)) (pv 0) (λ_ _=>rfl)))) (ZkY (Zfh ZP (Zfh ZP ZkX))))))),?_⟩
 obtain⟨dx,fs,kvs,h1,⟨f1,f2,f3,f4,f5,f6,f7,f8,f9,f10,f11⟩,h3,h4,h5,h6,h7,h8⟩:=id hF.1
 obtain⟨hGT,hl12,hm0,hm12,hW,hrm,hrl⟩:=id hG
 obtain⟨_,ns,hT⟩:=id hGT
 have eN:=hT.1
 have x1:=Zx _ _ h1
 obtain⟨as,y1,y2,y3⟩:=id h4
 obtain⟨b,hb⟩:∃b,as[p]?=some b:=⟨_,Yi (by omega)⟩
 obtain⟨ah,bh,hA,hB,hab⟩:=y3 p b hb
 obtain rfl:=behind_one hT hB (kidB_is T' p)
 obtain⟨n,rfl⟩:∃n',n=n'+1:=⟨n-1,by omega⟩
 walk_at "rd"
 refine⟨dx,fs,x1,_,f3,_,rfl,_,SqL.of (Zx _ _ y1),V.ref b,Zbk (by rw[YC,hb];rfl),_,rfl,_,SqL.of (Zx _ _ hab),_,rfl,dx,fs,x1,f8,a,T',m,c,r,p,rfl,hF,hG,hp,hU,by omega,λl H1 e1 hF1 hl=>⟨l,rfl,_,SqL.of (Zx _ _ hl),?_⟩⟩
 have hF1':=ZfJ hF1.1 Zx
 obtain⟨dx1,fs1,kvs1,i1,⟨_,_,_,j4,_⟩,_,_,i5,_⟩:=id hF1'
 obtain⟨ks,ko,sb,u1,u2,u3,u4⟩:=ZnY i5 p
 have hl':=Zx _ _ hl
 refine comp_map (n:=m) (λj=>V.int ((nW T' c (fnR r) p j:Nat):Int)) (Yu (show _<=12 by omega) (by decide)) (λj Hx s hj=>⟨_,_,SqL.of (s _ _ hl'),Yi (by rw[Zlr];exact hj)⟩) (λHx s=>⟨_,SqL.of (s _ _ hl'),Zlr _ _⟩) ?_ ?_
 ·rintro j x Hx Hz hj s ⟨q,x,hq,rfl,rfl,hx⟩
  have ex:=hx _ (SqL.of (s _ _ hl'))
  rw[show(ZaY m (oW T' c (fnR r) p))[j]?=some (V.int ((oW T' c (fnR r) p j:Nat):Int)) by simp[ZaY,hj]]at ex
  cases ex
  have g:=(Zg.refl Hx).upd (o:=.tup [.int (j:Int),.int ((oW T' c (fnR r) p j:Nat):Int)]) hq
  have tq:=Zc (H:=Hx) (a:=q) (o:=.tup [.int (j:Int),.int ((oW T' c (fnR r) p j:Nat):Int)])
  generalize upd Hx q (.tup [.int (j:Int),.int ((oW T' c (fnR r) p j:Nat):Int)])=Hy at g tq⊢
  have sg:=s.trans g
  walk_at "rd"
  exact⟨_,SqT.of tq,rfl,_,_,rfl,_,_,rfl,rfl,dx1,fs1,sg _ _ i1,_,j4,_,rfl,_,sg _ _ u1,_,u2,_,u3,_,rfl,_,_,rfl,SqL.of (sg _ _ u4),_,wayL_at (by omega),_,rfl,_,rfl,oW_ok hT hm12 hl12 hW (ZpT hrm) hp (by omega),CW.next hj (by simp[nW]) sg⟩
 ·intro r1 H5 s5 hr5
  refine k1 r1 _ (ZbE e1 ((s5.ZX hr5).Zfv)) (Zas hF1 (s5.ZX hr5)) ?_
  rw[Zaw (λy=>by rw[y,s5 _ _ hF1.2]at hr5;cases hr5),Zc]
  rfl
theorem Zer {f:Addr}{fd:FuncData} (F:Fun K "next_ways" "Filling.next_ways" ZU f fd) (GM_Filling_onward_ways:Zah P w K mg base "Filling" "onward_ways" 42 ["self","place"] (ZdD K mg)) (T:Txt K mg):FnOk P w K mg base (CXE P w) 43 f fd ["self"] (Zad K mg):=by
 refine F.okX Zae (λvs H Q E h=>?_) (λcdv A outer s H vs Q E hr h=>?_)
 ·obtain⟨a,T,m,c,r,rfl,_⟩:=h;rfl
 obtain⟨a,T',m,c,r,rfl,hF,hG,hk,k1⟩:=h
 refine⟨_,(Zd (Zm (i:=1) Zae.nd rfl (Or.inl rfl) (Zi (Zt (K:=K) rfl) rfl T.b_len Yt (Za (Z2 (K:=K) rfl T.cl_Filling T.n_Filling_row (pv 0)) Zb)))
   (Zd (Zm (i:=2) Zae.nd rfl (Or.inl rfl) (ZF ZA (ZF ZA (Z2 (K:=K) rfl T.cl_Filling T.n_Filling_young (pv 0)) (pv 1) (λ_ _=>rfl)) Ze (λ_ _=>rfl)))
   (Zd (Zm (i:=3) Zae.nd rfl (Or.inl rfl) (Zh3 (Zn ZoQ (pv 2) ZcT (Zs _)) (Z2 (K:=K) rfl T.cl_Filling T.n_Filling_most (pv 0)) (ZF ZA (Z2 (K:=K) rfl T.cl_Filling T.n_Filling_row (pv 0)) (pv 2) (λ_ _=>rfl))))
   (Zf (Zu (Zf6 ZhV (Zem (mg:=mg) rfl GM_Filling_onward_ways (hr.mono (by decide)) Zy (pv 0) (Za (pv 1) Zb)) ZhT (ZhU (pv 3)))))))),?_⟩
 obtain⟨dx,fs,kvs,h1,⟨f1,f2,f3,f4,f5,f6,f7,f8,f9,f10,f11⟩,h3,h4,h5,h6,h7,h8⟩:=id hF.1
 obtain⟨hGT,hl12,hm0,hm12,hW,hrm,hrl⟩:=id hG
 obtain⟨_,ns,hT⟩:=id hGT
 have eN:=hT.1
 have x1:=Zx _ _ h1
 have rl1:=hF.2
 obtain⟨as,y1,y2,y3⟩:=id h4
 obtain⟨b,hb⟩:∃b,as[r.length]?=some b:=⟨_,Yi (by omega)⟩
 obtain⟨ah,bh,hA,hB,hab⟩:=y3 r.length b hb
 obtain rfl:=ahead_one hT hA (kidA_is T' r.length)
 have eR:(ZbR r).length=r.length:=by simp[ZbR]
 refine ZQ (fun σ Hx=>σ=[some (.ref a.x),some (.int r.length),none,none]/\Hx=H) (λR hR=>?_) ?_
 ·walk_at "rd"
  exact⟨dx,fs,x1,_,f6,_,rfl,_,.inl (SqL.of rl1),hR _ _ ⟨by rw[eR],rfl⟩⟩
 rintro σ Hx ⟨rfl,rfl⟩
 refine ZQ (fun σ Hy=>σ=[some (.ref a.x),some (.int r.length),some (optN (kidA T' r.length)),none]/\Hy=Hx) (λR hR=>?_) ?_
 ·walk_at "rd"
  exact⟨dx,fs,x1,_,f3,_,rfl,_,SqL.of (Zx _ _ y1),V.ref b,Zbk (by rw[YC,hb];rfl),_,rfl,_,SqL.of (Zx _ _ hab),_,rfl,hR _ _ ⟨rfl,rfl⟩⟩
 rintro σ Hy ⟨rfl,rfl⟩
 refine ZQ (fun σ Hz=>σ=[some (.ref a.x),some (.int r.length),some (optN (kidA T' r.length)),some (.int (abV T' m (fnR r) r.length:Nat))]/\Hz=Hy) (λR hR=>?_) ?_
 ·walk_at "rd"
  cases e:kidA T' r.length with
  |none =>
   refine ZE (λ_=>⟨dx,fs,x1,_,f2,?_⟩) λz=>absurd rfl z
   have:=hR [some (.ref a.x),some (.int r.length),some (optN (kidA T' r.length)),some (.int (abV T' m (fnR r) r.length:Nat))] Hy ⟨rfl,rfl⟩
   unfold abV at this
   rw[e]at this
   exact this
  |some q =>
   have hq:=(ZbC e).1
   refine ZE (λz=>nomatch z) λ_=>⟨dx,fs,x1,_,f6,_,rfl,_,_,rfl,SqL.of rl1,_,Zls hq,?_⟩
   have:=hR [some (.ref a.x),some (.int r.length),some (optN (kidA T' r.length)),some (.int (abV T' m (fnR r) r.length:Nat))] Hy ⟨rfl,rfl⟩
   unfold abV at this
   rw[e]at this
   exact this
 rintro σ Hz ⟨rfl,rfl⟩
 walk_at "rd"
 have hab:abV T' m (fnR r) r.length<=m:=by
  unfold abV
  cases e:kidA T' r.length with
  |none=>exact Yd _
  |some q=>exact ZpT hrm q
 refine⟨dx,fs,x1,f10,a,T',m,c,r,r.length,rfl,hF,hG,hk,Zh0 hT hk,(show 3*(way T' r.length).length+2<=39 by have:=Zmt hT hk;omega),λl H1 e1 hF1 hl=>⟨l,rfl,_,SqL.of (Zx _ _ hl),λb2 hb2=>?_⟩⟩
 have g:=(Zg.refl H1).upd (o:=.lst (ZcV (ZaY m (nW T' c (fnR r) r.length)) none (some ((abV T' m (fnR r) r.length:Nat):Int)))) hb2
 refine k1 b2 _ (ZbE e1 g.Zfv) (Zas hF1 g) ?_
 rw[Zaw (λy=>by rw[y,hF1.2]at hb2;cases hb2),Zc,Zmg]
 congr 2
 refine List.ext_getElem (by simp[ZaY];omega) λj j1 j2=>?_
 simp[ZaY]
theorem excF {x:Addr}{H H1:Hp}{ho:HO}{b:Addr} (e:Exc x H H1) (hx:H x=some ho) (z:H1 b=none) (hx1:H1 x≠none:=by intro z;simp_all):H b=none:=by
 cases h:H b with
 |none=>rfl
 |some u =>
  by_cases y:b=x
  ·subst y;exact absurd z hx1
  ·rw[e b u y h]at z;cases z
theorem ok_Filling___init__ {f:Addr}{fd:FuncData} (F:Fun K "__init__" "Filling.__init__" s_Filling___init__ f fd) (ZfL:Callee P w K mg base "young_of" 1 ["tree"] (sp_young_of K mg)) (Zet:Callee P w K mg base "span_ways" 6 ["tree","young","m"] (sp_span_ways K mg)) (T:Txt K mg):FnOk P w K mg base (CXE P w) 7 f fd ["self","tree","m"] (sp_Filling___init__ K mg):=by
 refine F.okX sc_Filling___init__ (λvs H Q E h=>?_) (λcdv A outer s H vs Q E hr h=>?_)
 ·obtain⟨x,dx,t,T,m,rfl,_⟩:=h;rfl
 obtain⟨x,dx,t,T',m,rfl,hx,ht,hG,hl,hm,hTb,k1⟩:=h
 refine⟨_,(Zd (Zfo (K:=K) rfl T.cl_Filling T.n_Filling_tree (pv 0) (pv 1))
   (Zd (Zfo (K:=K) rfl T.cl_Filling T.n_Filling_most (pv 0) (pv 2))
   (Zd (Zfo (K:=K) rfl T.cl_Filling T.n_Filling_young (pv 0) (Zk ZfL (hr.mono (by decide)) rfl Zy (Za (pv 1) Zb)))
   (Zd (Zfo (K:=K) rfl T.cl_Filling T.n_Filling_spans (pv 0) (Zk Zet (hr.mono (by decide)) rfl Zy (Za (pv 1) (Za (Z2 (K:=K) rfl T.cl_Filling T.n_Filling_young (pv 0)) (Za (pv 2) Zb)))))
   (Zd (Zfo (K:=K) rfl T.cl_Filling T.n_Filling_outsides (pv 0) Zpr)
   (Zf (Zfo (K:=K) rfl T.cl_Filling T.n_Filling_row (pv 0) (ZO Zb)))))))),?_⟩
 have htE:∀Hx,Exc x H Hx->ZnU Hx t (T'.map V.int):=λHx e=>by
  rcases ht with h|⟨ob,o1,o2⟩
  ·exact .inl (e _ _ (λz=>by rw[z,hx]at h;cases h) h)
  ·exact .inr ⟨ob,o1,e _ _ (λz=>by rw[z,hx]at o2;cases o2) o2⟩
 have nTx:Zkh K mg "from_below"≠x:=λz=>by
  have:=hTb
  unfold Zb6 at this
  rw[z,hx]at this;cases this
 have hTE:∀Hx,Exc x H Hx->Zb6 K mg "from_below" Hx:=λHx e=>e _ _ nTx hTb
 have exU:∀{Hx:Hp}{o:HO},Exc x H Hx->Exc x H (upd Hx x o):=λ{Hx o} e b u n z=>by rw[Zh n];exact e b u n z
 refine ZQ (fun σ Hx=>σ=[some (.ref x),some (.ref t),some (.int m)]/\Hx x=some (.ins (cFi mg) dx (Za5 (Str.ofString "tree") (.ref t) []))/\Exc x H Hx) (λR hR=>?_) ?_
 ·walk_at "rd"
  exact⟨dx,[],hx,by decide,hR _ _ ⟨rfl,Zc,exU Zlt⟩⟩
 rintro σ H1 ⟨rfl,f1,e1⟩
 have l1:=ZaF (Str.ofString "tree") (.ref t) []
 generalize hA:Za5 (Str.ofString "tree") (.ref t) []=fsA at f1 l1
 refine ZQ (fun σ Hx=>σ=[some (.ref x),some (.ref t),some (.int m)]/\Hx x=some (.ins (cFi mg) dx (Za5 (Str.ofString "most") (.int m) fsA))/\Exc x H Hx) (λR hR=>?_) ?_
 ·walk_at "rd"
  exact⟨dx,fsA,f1,Yu l1 (by decide),hR _ _ ⟨rfl,Zc,exU e1⟩⟩
 clear f1 e1 H1
 rintro σ H1 ⟨rfl,f1,e1⟩
 have l2:=ZaF (Str.ofString "most") (.int m) fsA
 generalize hB:Za5 (Str.ofString "most") (.int m) fsA=fsB at f1 l2
 refine ZQ (fun σ Hx=>∃y,σ=[some (.ref x),some (.ref t),some (.int m)]/\H y=none/\Hx x=some (.ins (cFi mg) dx (Za5 (Str.ofString "young") (.ref y) fsB))/\YoungAt Hx y T'/\Exc x H Hx) (λR hR=>?_) ?_
 ·walk_at "rd"
  exact⟨t,T',rfl,Zkn (htE _ e1),hG,λy H2 zy hY s2=>⟨dx,fsB,s2 _ _ f1,Yu (Yf l2 (Nat.succ_le_succ l1)) (by decide),hR _ _ ⟨y,rfl,excF e1 hx zy,Zc,hY.updI (s2 _ _ f1),exU (λb o n z=>s2 _ _ (e1 b o n z))⟩⟩⟩
 clear f1 e1 H1
 rintro σ H1 ⟨y,rfl,zy,f1,hY,e1⟩
 have l3:=ZaF (Str.ofString "young") (.ref y) fsB
 generalize hC:Za5 (Str.ofString "young") (.ref y) fsB=fsC at f1 l3
 have y3:fsC.lookup (Str.ofString "young")=some (.ref y):=by rw[<-hC,ZbM,Yc rfl]
 refine ZQ (fun σ Hx=>∃d c,σ=[some (.ref x),some (.ref t),some (.int m)]/\Hx x=some (.ins (cFi mg) dx (Za5 (Str.ofString "spans") (.ref d) fsC))/\YoungAt Hx y T'/\WaysIs T' m c/\WaysAt Hx d 13 m c (λp=>p<T'.length)/\Exc x H Hx) (λR hR=>?_) ?_
 ·walk_at "rd"
  exact⟨dx,fsC,f1,_,y3,t,y,T',m,rfl,Zkn (htE _ e1),hY,hG,hl,hm,hTE _ e1,λd c H2 zd s2 hW hA=>⟨dx,fsC,s2 _ _ f1,Yu (Yf l3 (Nat.succ_le_succ (Yf l2 (Nat.succ_le_succ l1)))) (by decide),hR _ _ ⟨d,c,rfl,Zc,(Zb7 hY s2).updI (s2 _ _ f1),hW,hA.updI (s2 _ _ f1),exU (λb o n z=>s2 _ _ (e1 b o n z))⟩⟩⟩
 clear f1 e1 H1 hY
 rintro σ H1 ⟨d,c,rfl,f1,hY,hW,hA',e1⟩
 have l4:=ZaF (Str.ofString "spans") (.ref d) fsC
 generalize hD:Za5 (Str.ofString "spans") (.ref d) fsC=fsD at f1 l4
 refine ZQ (fun σ Hx=>∃o,σ=[some (.ref x),some (.ref t),some (.int m)]/\H o=none/\Hx o=some (.dK [])/\Hx x=some (.ins (cFi mg) dx (Za5 (Str.ofString "outsides") (.ref o) fsD))/\YoungAt Hx y T'/\WaysAt Hx d 13 m c (λp=>p<T'.length)/\Exc x H Hx) (λR hR=>?_) ?_
 ·walk_at "rd"
  intro p zp
  have g1:=(Zg.refl H1).upd (o:=.dK []) zp
  have npx:p≠x:=λz=>by rw[z,f1]at zp;cases zp
  exact⟨dx,fsD,g1 _ _ f1,Yu (Yf l4 (Nat.succ_le_succ (Yf l3 (Nat.succ_le_succ (Yf l2 (Nat.succ_le_succ l1)))))) (by decide),hR _ _ ⟨p,rfl,excF e1 hx zp,by rw[Zh npx,Zc],Zc,(Zb7 hY g1).updI (g1 _ _ f1),(hA'.same g1).updI (g1 _ _ f1),exU (λb o n z=>g1 _ _ (e1 b o n z))⟩⟩
 clear f1 e1 H1 hY hA'
 rintro σ H1 ⟨o,rfl,zo,ho,f1,hY,hA',e1⟩
 have l5:=ZaF (Str.ofString "outsides") (.ref o) fsD
 generalize hE:Za5 (Str.ofString "outsides") (.ref o) fsD=fsE at f1 l5
 walk_at "rd"
 refine⟨by decide,λb zb=>?_⟩
 have g1:=(Zg.refl H1).upd (o:=.lst []) zb
 have nbx:b≠x:=λz=>by rw[z,f1]at zb;cases zb
 refine⟨dx,fsE,g1 _ _ f1,Yu (Yf l5 (Nat.succ_le_succ (Yf l4 (Nat.succ_le_succ (Yf l3 (Nat.succ_le_succ (Yf l2 (Nat.succ_le_succ l1)))))))) (by decide),?_⟩
 have e2:Exc x H (upd (upd H1 b (.lst [])) x (.ins (cFi mg) dx (Za5 (Str.ofString "row") (.ref b) fsE))):=exU (λb o n z=>g1 _ _ (e1 b o n z))
 have hFS:Zhj mg H1 ⟨x,t,y,d,o,b⟩ T' m c []->True:=λ_=>trivial
 refine k1 ⟨x,t,y,d,o,b⟩ c _ rfl rfl (excF e1 hx zb) zo e2 hW ⟨?_,by rw[Zh nbx,Zc];rfl⟩
 rw[ZgY (λz=>nbx z.symm),show strip b (upd H1 b (.lst []))=strip b H1 from ZgZ]
 have sS:Zg H1 (strip b H1):=λd' u z=>by rw[Zaw (λy=>by rw[y,zb]at z;cases z)];exact z
 have f2:=sS _ _ f1
 refine⟨dx,_,[],Zc,?_,?_,(Zb7 hY sS).updI f2,(hA'.same sS).updI f2,?_,Yn _,λp hp v e=>nomatch e⟩
 ·subst hE hD hC hB hA
  refine⟨?_,?_,?_,?_,?_,?_,?_,?_,?_,?_,?_⟩<;>(repeat (first|rw[ZbM,Yb (by decide)]|rw[ZbM,Yc rfl]))<;>rfl
 ·have e3:Exc x H (upd (strip b H1) x (.ins (cFi mg) dx (Za5 (Str.ofString "row") (.ref b) fsE))):=exU (λb o n z=>sS _ _ (e1 b o n z))
  exact htE _ e3
 ·rw[Zh (λz=>by rw[show o=x from z]at ho;rw[f1]at ho;cases ho)]
  exact sS _ _ ho
theorem ok_Filling_how_many_rows {f:Addr}{fd:FuncData} (F:Fun K "how_many_rows" "Filling.how_many_rows" s_Filling_how_many_rows f fd) (T:Txt K mg):FnOk P w K mg base (CXE P w) 1 f fd ["self"] (sp_Filling_how_many_rows K mg):=by
 refine F.okX sc_Filling_how_many_rows (λvs H Q E h=>?_) (λcdv A outer s H vs Q E hr h=>?_)
 ·obtain⟨x,t,T,m,c,rfl,_⟩:=h;rfl
 obtain⟨x,t,T',m,c,rfl,hF,hG,hl,k1⟩:=h
 refine⟨_,(Zf (Zu (Zh3 (ZoR (Z2 (K:=K) rfl T.cl_Filling T.n_Filling_tree (pv 0)) (λ_=>rfl)) (ZF ZA (Zgo (Z2 (K:=K) rfl T.cl_Filling T.n_Filling_spans (pv 0)) (ZpF PySem.F.slot_tuple_index PySem.F.type_tuple_index (ZjR (K:=K) rfl) (Z2 (K:=K) rfl T.cl_Filling T.n_Filling_tree (pv 0)) (Za (Zbw ZaD Ze) Zb)) (λ_ _=>rfl)) Ze (λ_ _=>rfl)) Ze))),?_⟩
 obtain⟨dx,d,fs,f1,f2,f3,f4,ht,hW⟩:=hF
 obtain⟨kvs,w1,w0,w2,w3⟩:=hW
 have eL:(T'.map V.int).length=T'.length:=Yh ..
 walk_at "rd"
 refine⟨dx,fs,f1,_,f2,!T'.isEmpty,?_,ZE (λc1=>?_) λc1=>?_⟩
 ·exact .inr (.inl ⟨_,ht.sq,by cases T'<;>rfl⟩)
 ·have hne:T'≠[]:=λz=>by rw[z]at c1;cases c1
  have hm1:(-1:Int)∈T':=by
   obtain⟨_,ns,hT⟩:=hG
   exact top_in hT _ 0 (List.length_pos_iff.mpr hne) (Yd _)
  have hix:T'.idxOf (-1)<T'.length:=List.idxOf_lt_length_of_mem hm1
  obtain⟨l,v1,v2⟩:=w3 _ hix
  refine⟨dx,fs,f1,_,f3,dx,fs,f1,_,f2,⟨t,rfl,_,ht⟩,t,rfl,T',ht.sq,hm1,d,rfl,kvs,w1,some ((T'.idxOf (-1):Nat):Int),rfl,_,v1,l,rfl,?_⟩
  exact⟨_,SqL.of v2,_,wayL_at (j:=0) (Yn _),by
   have:topC T' c=c (T'.idxOf (-1)) 0:=by unfold topC;rw[Yb hne]
   rw[this]at k1
   exact k1⟩
 ·have hne:T'=[]:=by cases T'<;>simp_all
  have:topC T' c=1:=by unfold topC;rw[Yc hne]
  rw[this]at k1
  exact k1
theorem Zlv {mg:Str->Option Value}{H:Hp}{a:Fa}{T:List Int}{m:Nat}{c:Nat->Nat->Nat}{r:List Nat} (h:ZbS mg H a T m c r) (ht:Zeo H a.t (T.map V.int)):FillAt H a.x a.t T m c mg:=by
 obtain⟨dx,fs,kvs,h1,⟨f1,f2,f3,f4,f5,f6,f7,_⟩,_,_,h5,_⟩:=ZfJ h.1 Zx
 exact⟨dx,a.d,fs,h1,f1,f4,f7,ht,h5⟩
theorem ok_many_rows {f:Addr}{fd:FuncData} (F:Fun K "many_rows" "many_rows" s_many_rows f fd) (Zaf:Callee P w K mg base "need_tree" 4 ["tree"] (sp_need_tree K mg)) (Zau:Callee P w K mg base "need_few" 1 ["many","m"] (sp_need_few K mg)) (GI_Filling:Zgm P w K mg base "Filling" 7 ["self","tree","m"] (sp_Filling___init__ K mg)) (GM_Filling_how_many_rows:Zah P w K mg base "Filling" "how_many_rows" 1 ["self"] (sp_Filling_how_many_rows K mg)) (T:Txt K mg):FnOk P w K mg base (CXE P w) 9 f fd ["tree","m"] (sp_many_rows K mg):=by
 refine F.okX sc_many_rows (λvs H Q E h=>?_) (λcdv A outer s H vs Q E hr h=>?_)
 ·obtain⟨t,T,m,rfl,_⟩:=h;rfl
 obtain⟨t,T',m,rfl,htG,hlT,hTb,k1,k2,k3⟩:=h
 refine⟨_,(Zd (Z4 (Zk Zaf (hr.mono (by decide)) rfl Zdw (Za (pv 0) Zb)))
   (Zd (Z4 (Zk Zau (hr.mono (by decide)) rfl Zdw (Za (Zi (Zt (K:=K) rfl) rfl T.b_len Yt (Za (pv 0) Zb)) (Za (pv 1) Zb))))
   (Zf (Zu (Zfp (mg:=mg) rfl GM_Filling_how_many_rows (hr.mono (by decide)) Zy (Zis (mg:=mg) rfl GI_Filling (hr.mono (by decide)) rfl Zy (Za (pv 0) (Za (pv 1) Zb)))))))),?_⟩
 have eL:(T'.map V.int).length=T'.length:=Yh ..
 by_cases hG:ZT T'
 ·have ht:=htG.good hG
  walk_at "rd"
  refine⟨t,T',rfl,ht.sq,by omega,λ_ H1 s1=>⟨_,.inr (ht.same s1).sq,?_⟩,λz=>absurd hG z⟩
  rw[eL]
  refine⟨T'.length,m,rfl,λhf x dx zx zdx ne=>?_,λhf H2 s2=>k3 hG hf H2 (s1.trans s2)⟩
  obtain⟨hl,m0,m1⟩:=id hf
  obtain⟨m,rfl⟩:=YR m0
  have hm:m<=12:=by omega
  have g:=((Zg.refl H1).upd (o:=.own x) zdx).ZX (o:=.ins (cFi mg) dx []) (by rw[Zh (Ne.symm ne)];exact zx)
  refine⟨x,dx,t,T',m,rfl,Zc,.inr (ht.same (s1.trans g)),hG,hl,hm,Zb6.same hTb (s1.trans g),λa c H2 ax at' _ _ e2 hW hF=>?_⟩
  subst ax at'
  have sF:Zg H H2:=λb o z=>e2 b o (Zr z (s1.free zx)) ((s1.trans g) b o z)
  have hF2:=Zlv hF (ht.same sF)
  obtain⟨dx2,d,fs,f1,f2,f3,f4,r⟩:=id hF2
  exact⟨rfl,dx2,fs,f1,f4,a.x,a.t,T',m,c,rfl,hF2,hG,hl,k1 hG hf _ H2 sF⟩
 ·refine ZQ (λ_ _=>False) (λR hR=>?_) (fun σ H1 h=>h.elim)
  walk_at "rd"
  exact⟨t,T',rfl,htG.sq,by omega,λz=>absurd z hG,λz H1 s1=>k2 z H1 s1⟩
theorem ZrL {f:Addr}{fd:FuncData} (F:Fun K "pick" "pick" ZgW f fd) (T:Txt K mg):FnOk P w K mg base (CXE P w) 1 f fd ["ways","number"] (Zkq K mg):=by
 refine F.okX Zh1 (λvs H Q E h=>?_) (λcdv A outer s H vs Q E hr h=>?_)
 ·obtain⟨t,ws,x,rfl,_⟩:=h;rfl
 obtain⟨t,ws,x,rfl,ht,h0,h1,k1⟩:=h
 refine⟨_,(Zd (Zm (i:=2) Zh1.nd rfl (Or.inl rfl) Ze)
   (Zd (Zag (Zf3 PassesOwn.never (Zn Zju (pv 1) (ZF ZA (pv 0) (pv 2) (λ_ _=>rfl)) (Zs _)) (Zd (ZfE (i:=1) Zh1.nd rfl (Or.inl rfl) (ZF ZA (pv 0) (pv 2) (λ_ _=>rfl)) ZoN)
   (Zf (ZfE (i:=2) Zh1.nd rfl (Or.inl rfl) Ze ZlU)))))
   (Zf (Zu (Zck (Za (pv 2) (Za (pv 1) Zb))))))),?_⟩
 walk_at "rd"
 refine Zkd ws.length (λi σ Hx=>∃y:Int,σ=[some (.ref t),some (.int y),some (.int (i:Int))]/\0<=y/\y<(ws.drop i).sum/\Zax ws x=(i+(Zax (ws.drop i) y).1,(Zax (ws.drop i) y).2)/\Hx=H) ⟨x,rfl,h0,h1,by rw[List.drop_zero,Nat.zero_add],rfl⟩ ?_
 rintro i σ Hx hi ⟨y,rfl,y0,y1,hP,rfl⟩
 have hil:i<ws.length:=by
  rcases Nat.lt_or_ge i ws.length with z|z
  ·exact z
  ·rw[List.drop_of_length_le z]at y1;simp at y1;omega
 have ea:ws[i]?=some (nth ws i):=by simp[nth,Yr,hil]
 rw[Zmj ea]at hP
 have es:(ws.drop i).sum=nth ws i+(ws.drop (i+1)).sum:=by
  rw[List.drop_eq_getElem_cons hil,List.sum_cons]
  simp[nth,Yr,hil]
 walk_at "rd"
 refine⟨_,SqL.of ht,_,Za7 hil,_,rfl,ZE (λz=>?_) λz=>?_⟩
 ·rw[Yc z]at hP
  refine⟨_,WI.next,_,SqL.of ht,_,Za7 hil,_,rfl,hil,_,rfl,by omega,by omega,?_,rfl⟩
  rw[hP];congr 1;omega
 ·rw[Yb z]at hP
  refine⟨by decide,λu hu=>k1 u _ ((Zg.refl _).upd hu) ?_⟩
  rw[Zc,hP];rfl
theorem ZnZ {f:Addr}{fd:FuncData} (F:Fun K "row_at" "row_at" Zdm f fd) (Zaf:Callee P w K mg base "need_tree" 4 ["tree"] (sp_need_tree K mg)) (Zmv:Callee P w K mg base "pick" 1 ["ways","number"] (Zkq K mg)) (Zau:Callee P w K mg base "need_few" 1 ["many","m"] (sp_need_few K mg)) (GI_Filling:Zgm P w K mg base "Filling" 7 ["self","tree","m"] (sp_Filling___init__ K mg)) (GM_Filling_how_many_rows:Zah P w K mg base "Filling" "how_many_rows" 1 ["self"] (sp_Filling_how_many_rows K mg)) (GM_Filling_next_ways:Zah P w K mg base "Filling" "next_ways" 43 ["self"] (Zad K mg)) (T:Txt K mg):FnOk P w K mg base (CXE P w) 44 f fd ["tree","m","number"] (Zg0 K mg):=by
 refine F.okX Zdp (λvs H Q E h=>?_) (λcdv A outer s H vs Q E hr h=>?_)
 ·obtain⟨t,T,m,x,rfl,_⟩:=h;rfl
 obtain⟨t,T',m,x,rfl,htG,hlT,hTb,k1,k4,k3,k2⟩:=h
 refine⟨_,(Zd (Z4 (Zk Zaf (hr.mono (by decide)) rfl Zdw (Za (pv 0) Zb)))
   (Zd (Z4 (Zk Zau (hr.mono (by decide)) rfl Zdw (Za (Zi (Zt (K:=K) rfl) rfl T.b_len Yt (Za (pv 0) Zb)) (Za (pv 1) Zb))))
   (Zd (Zm (i:=3) Zdp.nd rfl (Or.inl rfl) (Zis (mg:=mg) rfl GI_Filling (hr.mono (by decide)) rfl Zy (Za (pv 0) (Za (pv 1) Zb))))
   (Zd (ZK (Zaq (Zdg Zec Zcj Ze (pv 2) (Zfp (mg:=mg) rfl GM_Filling_how_many_rows (hr.mono (by decide)) Zy (pv 3)))) (Zf (Zf7 rfl rfl T.c_NoNumber T.x_NoNumber (Za (Zfi (Zb4 (by decide) (ZgK (Zi (Zt (K:=K) rfl) rfl T.b_len Yt (Za (pv 0) Zb)) (Zb4 (by decide) (ZgK (pv 1) (Zb4 (by decide) Zj8)))))) Zb) ZhX)) Zw)
   (Zd (Zag (ZaC PassesOwn.never rfl (Zaa rfl T.b_range (Za (Zi (Zt (K:=K) rfl) rfl T.b_len Yt (Za (pv 0) Zb)) Zb)) (Zv (i:=4) Zdp.nd rfl (Or.inl rfl)) (Zd (Zbx (Zk Zmv (hr.mono (by decide)) rfl Zy (Za (Zfp (mg:=mg) rfl GM_Filling_next_ways (hr.mono (by decide)) Zy (pv 3)) (Za (pv 2) Zb))) (ZfD (n:=2) rfl (ZW (Zv (i:=5) Zdp.nd rfl (Or.inl rfl)) (ZW (Zv (i:=2) Zdp.nd rfl (Or.inl rfl)) Zb3))))
   (Zf (Z4 (Zcl PySem.F.plainAttrs_list PySem.F.slot_list_append PySem.F.type_list_append ZaL (Z2 (K:=K) rfl T.cl_Filling T.n_Filling_row (pv 3)) (Za (pv 5) Zb)))))))
   (Zf (Zu (ZaK (ZgL (K:=K) rfl) rfl T.b_tuple ZbN (Za (Z2 (K:=K) rfl T.cl_Filling T.n_Filling_row (pv 3)) Zb))))))))),?_⟩
 have eL:(T'.map V.int).length=T'.length:=Yh ..
 refine ZQ (fun σ Hx=>σ=[some (.ref t),some (.int m),some (.int x),none,none,none]/\ZT T'/\Zg H Hx) (λR hR=>?_) ?_
 ·walk_at "rd"
  exact⟨t,T',rfl,htG.sq,by omega,λg H1 s1=>hR _ _ ⟨rfl,g,s1⟩,λz H1 s1=>k4 z H1 s1⟩
 rintro σ H1 ⟨rfl,hG,s1⟩
 have ht:=htG.good hG
 obtain⟨_,ns,hT⟩:=id hG
 have eN:=hT.1
 refine ZQ (fun σ Hx=>σ=[some (.ref t),some (.int m),some (.int x),none,none,none]/\ZaV T'.length m/\Zg H Hx) (λR hR=>?_) ?_
 ·walk_at "rd"
  refine⟨_,.inr (ht.same s1).sq,?_⟩
  rw[eL]
  exact⟨T'.length,m,rfl,λhf=>hR _ _ ⟨rfl,hf,s1⟩,λhf H2 s2=>k3 hG hf H2 (s1.trans s2)⟩
 clear s1 H1
 rintro σ H1 ⟨rfl,hf,s1⟩
 obtain⟨hl,m0,m1⟩:=id hf
 obtain⟨m,rfl⟩:=YR m0
 have hm:m<=12:=by omega
 replace k1:=k1 hG hf
 replace k2:=k2 hG hf
 rw[show((m:Nat):Int).toNat=m by omega]at k1 k2
 refine ZQ (fun σ Hx=>∃(a:Fa) (c:Nat->Nat->Nat),σ=[some (.ref t),some (.int m),some (.int x),some (.ref a.x),none,none]/\a.t=t/\H a.rl=none/\H a.o=none/\H a.x=none/\WaysIs T' m c/\ZbS mg Hx a T' m c []/\Zg H Hx) (λR hR=>?_) ?_
 ·walk_at "rd"
  intro x2 dx zx zdx ne
  have g:=((Zg.refl H1).upd (o:=.own x2) zdx).ZX (o:=.ins (cFi mg) dx []) (by rw[Zh (Ne.symm ne)];exact zx)
  refine⟨x2,dx,t,T',m,rfl,Zc,.inr (ht.same (s1.trans g)),hG,hl,hm,Zb6.same hTb (s1.trans g),λa c H2 ax at' zr zo e2 hW hF=>?_⟩
  subst ax at'
  have sF:Zg H H2:=λb o z=>e2 b o (Zr z (s1.free zx)) ((s1.trans g) b o z)
  exact⟨rfl,hR _ _ ⟨a,c,rfl,rfl,(s1.trans g).free zr,(s1.trans g).free zo,s1.free zx,hW,hF,sF⟩⟩
 clear s1 H1
 rintro σ H1 ⟨a,c,rfl,rfl,zr,zo,zx,hW,hF,s1⟩
 refine ZQ (fun σ Hx=>σ=[some (.ref a.t),some (.int m),some (.int x),some (.ref a.x),none,none]/\Hx=H1/\0<=x/\x<(Zfw T' m:Nat)) (λR hR=>?_) ?_
 ·have hA:=Zlv hF (ht.same s1)
  obtain⟨dx2,d2,fs2,f1,f2,f3,f4,_⟩:=id hA
  have no:¬ (0<=x/\x<(Zfw T' m:Nat))->∀H',Zg H H'->∃y,(SqL K H' a.t y\/SqT K H' a.t y)/\0<=((y.length:Nat):Int)/\((y.length:Nat):Int)<10 ^ 18/\0<=((m:Nat):Int)/\((m:Nat):Int)<10 ^ 18/\∀(_:Str),0+1<=sizeLine/\E (.ref (clsAt mg (Str.ofString "NoNumber"))) none H':=λz H' s'=>⟨_,.inr (ht.same s').sq,by omega,by rw[eL];omega,by omega,by omega,λ_=>⟨by decide,k2 z H' s'⟩⟩
  walk_at "rd"
  refine ZE (λz=>⟨dx2,fs2,f1,f4,a.x,a.t,T',m,c,rfl,hA,hG,hl,_,rfl,ZE (λz2=>?_) λz2=>?_⟩) λz=>?_
  ·exact no (λy=>z2 (by rw[Zkp hT hW];exact y.2)) H1 s1
  ·exact hR _ _ ⟨rfl,rfl,z,by rw[<-Zkp hT hW];omega⟩
  ·exact no (λy=>z y.1) H1 s1
 rintro σ Hx ⟨rfl,rfl,x0,x1⟩
 walk_at "rd"
 refine⟨_,.inr (ht.same s1).sq,by omega,by rw[eL];omega,?_⟩
 rw[eL,show((T'.length:Nat):Int).toNat=T'.length by omega]
 refine Za9 (λk σ Hy=>∃(r:List Nat) (rest:Nat) (v4 v5:Option V),σ=[some (.ref a.t),some (.int m),some (.int rest),some (.ref a.x),v4,v5]/\r.length=k/\(∀i∈r,i<m)/\ZbS mg Hy a T' m c r/\Zbe T' m (fnR r) k/\rest<vW T' m c (fnR r) k/\x=((rkF T' c (fnR r) k+rest:Nat):Int)/\Zg H Hy) ?_ ?_ ?_
 ·refine⟨[],x.toNat,none,none,by rw[show((x.toNat:Nat):Int)=x by omega],rfl,(λi hi=>nomatch hi),hF,(λq hq=>absurd hq (by omega)),?_,?_,s1⟩
  ·rw[ZrI hT hW,Zkp hT hW];omega
  ·show x=((0+x.toNat:Nat):Int)
   omega
 ·clear hF s1
  rintro k σ Hy hk ⟨r,rest,v4,v5,rfl,rfl,hall,hF,hP,hrest,hx,sy⟩
  have hk':r.length<T'.length:=hk
  rw[show vW T' m c (fnR r) r.length=sumTo (nW T' c (fnR r) r.length) (abV T' m (fnR r) r.length) by unfold vW;rw[Yb (by omega)]]at hrest
  have hm0:0<m:=by
   rcases Nat.eq_zero_or_pos (abV T' m (fnR r) r.length)with z|z
   ·rw[z]at hrest;exact absurd hrest (Nat.not_lt_zero _)
   ·unfold abV at z
    cases e:kidA T' r.length with
    |none=>rw[e]at z;exact z
    |some q =>
     have:=(hP q (ZbC e).1).1
     omega
  have hGF:Zlm T' m c r:=⟨hG,hl,hm0,hm,hW,hall,by omega⟩
  obtain⟨dx2,fs2,kv2,g1,⟨_,_,_,_,_,j6,_,_,_,_,j11⟩,_⟩:=id hF.1
  obtain⟨i,rest2,pk,p1,p2,p3⟩:=ZpO (g:=nW T' c (fnR r) r.length) (k:=abV T' m (fnR r) r.length) (x:=(rest:Int)) (by omega) (by omega)
  obtain⟨q1,q2,q3,q4⟩:=ZpN hT hW hk' hP p1 p2
  walk_at "rd"
  refine⟨dx2,fs2,Zx _ _ g1,j11,a,T',m,c,r,rfl,hF,hGF,hk',λl H2 e2 hF2 hl2=>⟨l,_,_,rfl,by rw[<-Zko];exact Zx _ _ hl2,by omega,by rw[(Zdn _ _).2];omega,λu H3 s3 hu=>?_⟩⟩
  rw[pk]at hu
  have hF3:=Zas hF2 s3
  obtain⟨dx3,fs3,kv3,g3,⟨_,_,_,_,_,i6,_⟩,_⟩:=id hF3.1
  have hlr:(ZbR r).length<sizeLine:=Yu (show _<=12 by simp[ZbR];omega) (by decide)
  have eRV:ZbR r++[V.int ((i:Nat):Int)]=ZbR (r++[i]):=by simp[ZbR]
  refine⟨u,rfl,_,SqT.of hu,rfl,_,_,rfl,_,_,rfl,rfl,dx3,fs3,Zx _ _ g3,_,i6,Z8 hF3.2,_,rfl,_,hF3.2,hlr,r++[i],rest2,rfl,by simp,?_,?_,q1,q2,?_,?_⟩
  ·intro j hj
   rcases YE.mp hj with z|z
   ·exact hall j z
   ·simp at z;omega
  ·refine⟨?_,by rw[Zc,eRV]⟩
   rw[ZgZ]
   exact ZiC hT hF3.1 i
  ·rw[q3,hx];omega
  ·have e3:Zg H H3:=λb o z=>s3 _ _ (e2 b o (Zr z zo) (sy _ _ z))
   exact e3.upd zr
 ·rintro σ Hy ⟨r,rest,v4,v5,rfl,hrl,hall,hF,hP,hrest,hx,sy⟩
  obtain⟨dx2,fs2,kv2,g1,⟨_,_,_,_,_,j6,_⟩,_⟩:=id hF.1
  walk_at "rd"
  have hrest0:rest=0:=by
   unfold vW at hrest
   rw[Yc rfl]at hrest;omega
  refine⟨dx2,fs2,Zx _ _ g1,_,j6,_,rfl,_,.inl ⟨SqL.of hF.2,λu hu=>k1 ⟨x0,x1⟩ u r _ (sy.free hu) (sy.ZX hu) (by omega) Zc⟩⟩
theorem walkQ {K:PySem.W.Frag}{r:Addr}{H H1:Hp}{xs:List V}{R:It->Prop} (hr:SqL K H r xs\/SqT K H r xs) (s1:Zg H H1)
  (key:∀J:It,(∀i Hx,Zg H Hx->i<xs.length->J.go i Hx)->(∀Hx,Zg H Hx->J.stop xs.length Hx)->(∀i Hx x Hx',Zg H Hx->J.yld i Hx x Hx'->Hx'=Hx/\xs[i]?=some x)->R J) :
  (∃xs,SqL K H1 r xs)/\R (Itl K r)\/(∃xs,SqT K H1 r xs)/\R (Itt K r):=by
 rcases hr with hr|hr
 ·exact .inl ⟨⟨_,s1.seq hr⟩,key _ (λi Hx s hi=>⟨_,_,s.seq hr,Yi hi⟩) (λHx s=>⟨_,s.seq hr,Yd _⟩) λi Hx x Hx' s ⟨h1,h2⟩=>⟨h1,h2 _ (s.seq hr)⟩⟩
 ·exact .inr ⟨⟨_,s1.Zav hr⟩,key _ (λi Hx s hi=>⟨_,_,s.Zav hr,Yi hi⟩) (λHx s=>⟨_,s.Zav hr,Yd _⟩) λi Hx x Hx' s ⟨h1,h2⟩=>⟨h1,h2 _ (s.Zav hr)⟩⟩
theorem walkC {K:PySem.W.Frag}{r:Addr}{H H1:Hp}{xs:List V}{g:TG}{tt:TT}{te:TE}{σ:L2.St}{Q:VK} (hr:SqL K H r xs\/SqT K H r xs) (s1:Zg H H1)
  (key:∀J:It,(∀i Hx,Zg H Hx->i<xs.length->J.go i Hx)->(∀Hx,Zg H Hx->J.stop xs.length Hx)->(∀i Hx x Hx',Zg H Hx->J.yld i Hx x Hx'->Hx'=Hx/\xs[i]?=some x)->Zga J g tt te σ Q H1) :
  (∃xs,SqL K H1 r xs)/\Zga (Itl K r) g tt te σ Q H1\/(∃xs,SqT K H1 r xs)/\Zga (Itt K r) g tt te σ Q H1:=walkQ (R:=λJ=>Zga J g tt te σ Q H1) hr s1 key
theorem walkL {K:PySem.W.Frag}{r:Addr}{H H1:Hp}{xs:List V}{g:TG}{tb:TS}{D:Ends}{σ:L2.St} (hr:SqL K H r xs\/SqT K H r xs) (s1:Zg H H1)
  (key:∀J:It,(∀i Hx,Zg H Hx->i<xs.length->J.go i Hx)->(∀Hx,Zg H Hx->J.stop xs.length Hx)->(∀i Hx x Hx',Zg H Hx->J.yld i Hx x Hx'->Hx'=Hx/\xs[i]?=some x)->Zf9 J g tb D σ H1) :
  (∃xs,SqL K H1 r xs)/\Zf9 (Itl K r) g tb D σ H1\/(∃xs,SqT K H1 r xs)/\Zf9 (Itt K r) g tb D σ H1:=walkQ (R:=λJ=>Zf9 J g tb D σ H1) hr s1 key
theorem ZpU {r:List Nat}{i:Nat} (h:i<r.length):(ZbR r)[i]?=some (V.int ((fnR r i:Nat):Int)):=by simp[ZbR,fnR,Yr,h]
theorem Zlw {r:List Nat}{k i:Nat} (h:i<k):fnR (r.take k) i=fnR r i:=by simp[fnR,Yr,List.getElem?_take,h]
theorem ZjW {r:List Nat}{k:Nat} (h:k<r.length):r.take (k+1)=r.take k++[fnR r k]:=by
 rw[Y6,Yi h];simp[fnR,Yr,h]
theorem Zg1 {f:Addr}{fd:FuncData} (F:Fun K "number_of_row" "number_of_row" Zab f fd) (Zci:Callee P w K mg base "tree_of" 2 ["row"] (sp_tree_of K mg)) (Zau:Callee P w K mg base "need_few" 1 ["many","m"] (sp_need_few K mg)) (GI_Filling:Zgm P w K mg base "Filling" 7 ["self","tree","m"] (sp_Filling___init__ K mg)) (GM_Filling_next_ways:Zah P w K mg base "Filling" "next_ways" 43 ["self"] (Zad K mg)) (T:Txt K mg):FnOk P w K mg base (CXE P w) 44 f fd ["row","m"] (ZbD K mg):=by
 refine F.okX Zan (λvs H Q E h=>?_) (λcdv A outer s H vs Q E hr h=>?_)
 ·obtain⟨t,ns,m,rfl,_⟩:=h;rfl
 obtain⟨t,ns,m,rfl,ht0,hl0,hTb,k1,k3,k2⟩:=h
 refine⟨_,(Zd (Z4 (Zk Zau (hr.mono (by decide)) rfl Zdw (Za (Zi (Zt (K:=K) rfl) rfl T.b_len Yt (Za (pv 0) Zb)) (Za (pv 1) Zb))))
   (Zd (ZK (Zaq (Zbi (Zi (Zie (K:=K) rfl rfl) rfl T.b_all Zma (Za (Zbn ["number","m"] [none,some 1] rfl rfl rfl (Zmb (K:=K) rfl (pv 0)) (λ_ _ _ _ _=>(Zv (i:=0) (show(["number","m"]:List Str).Nodup from by decide +kernel) rfl (Or.inl rfl))) (λ_ _ _ _ _=>Za0) (λ_ _ _ _ _=>(ZkU Zec Zcj Ze (pv 0) (pv 1))) ZP) Zb)))) (Zf (Zf7 rfl rfl T.c_NoNumber T.x_NoNumber (Za (Zfi (Zb4 (by decide) (ZgK (pv 1) (Zb4 (by decide) Zj8)))) Zb) ZhX)) Zw)
   (Zd (Zm (i:=2) Zan.nd rfl (Or.inl rfl) (Zis (mg:=mg) rfl GI_Filling (hr.mono (by decide)) rfl Zy (Za (Zk Zci (hr.mono (by decide)) rfl Zy (Za (pv 0) Zb)) (Za (pv 1) Zb))))
   (Zd (Zm (i:=3) Zan.nd rfl (Or.inl rfl) Ze)
   (Zd (Zag (ZaC PassesOwn.never rfl (Zmb (K:=K) rfl (pv 0)) (Zv (i:=4) Zan.nd rfl (Or.inl rfl)) (Zd (ZfE (i:=3) Zan.nd rfl (Or.inl rfl) (Zi (Zo3 rfl) rfl T.b_sum bt_sum (Za (Zf6 ZhV (Zfp (mg:=mg) rfl GM_Filling_next_ways (hr.mono (by decide)) Zy (pv 2)) ZhT (ZhU (pv 4))) Zb)) ZlU)
   (Zf (Z4 (Zcl PySem.F.plainAttrs_list PySem.F.slot_list_append PySem.F.type_list_append ZaL (Z2 (K:=K) rfl T.cl_Filling T.n_Filling_row (pv 2)) (Za (pv 4) Zb)))))))
   (Zf (Zu (pv 3)))))))),?_⟩
 have eL:(ns.map V.int).length=ns.length:=Yh ..
 refine ZQ (fun σ Hx=>σ=[some (.ref t),some (.int m),none,none,none]/\ZaV ns.length m/\Hx=H) (λR hR=>?_) ?_
 ·walk_at "rd"
  refine⟨_,ht0,?_⟩
  rw[eL]
  exact⟨ns.length,m,rfl,λhf=>hR _ _ ⟨rfl,hf,rfl⟩,λhf H2 s2=>k3 hf H2 s2⟩
 rintro σ Hx ⟨rfl,hf,rfl⟩
 refine ZQ (fun σ Hy=>σ=[some (.ref t),some (.int m),none,none,none]/\InB ns m/\Zg Hx Hy) (λR hR=>?_) ?_
 ·walk_at "rd"
  refine walkC ht0 (Zg.refl Hx) λJ hgo hstop hy=>?_
  rw[eL]at hgo hstop
  refine comp_map (n:=ns.length) (λj=>V.bl (decide (0<=nth ns j/\nth ns j<m))) (Yu hl0 (by decide)) (λj Hz s hj=>hgo j Hz s hj) (λHz s=>hstop Hz s) ?_ ?_
  ·rintro j x Hz Hw hj s hx
   obtain⟨rfl,ex⟩:=hy j Hz x Hw s hx
   rw[nthV hj]at ex
   cases ex
   walk_at "rd"
   exact ZE (λz=>CW.next hj (by congr 1;rw[decide_eq_decide];exact⟨λy=>⟨z,y⟩,λy=>y.2⟩) s) λz=>CW.next hj (by congr 1;exact(YJ λy=>z y.1).symm) s
  ·intro l H2 s2 zl
   refine⟨l,rfl,(List.range ns.length).map (λj=>decide (0<=nth ns j/\nth ns j<m)),SqL.of (by rw[Zc,Y1];rfl),ZE (λz=>⟨by have:=hf.2;omega,by have:=hf.2;omega,λ_=>⟨by decide,k2 hf (λy=>?_) _ (s2.ZX zl)⟩⟩) λz=>hR _ _ ⟨rfl,λy hyv=>?_,s2.ZX zl⟩⟩
   ·rw[List.all_eq_false]at z
    obtain⟨b,hb,hb2⟩:=z
    obtain⟨j,hj,rfl⟩:=YH.mp hb
    exact hb2 (YL (y _ (nth_mem (Yz.mp hj))))
   ·obtain⟨j,hj,rfl⟩:=Y4 hyv
    have z':((List.range ns.length).map (λj=>decide (0<=nth ns j/\nth ns j<m))).all id=true:=by
     cases h:((List.range ns.length).map (λj=>decide (0<=nth ns j/\nth ns j<m))).all id with
     |true=>rfl
     |false=>exact absurd h z
    have:=List.all_eq_true.mp z' _ (YH.mpr ⟨j,Yz.mpr hj,rfl⟩)
    have h2:=Ja this
    have e:nth ns j=ns[j]:=by simp[nth,Yr,hj]
    rw[<-e];exact h2
 rintro σ H1 ⟨rfl,hin,s1⟩
 obtain⟨r,rfl,hall⟩:∃r:List Nat,ns=Zdo r/\∀i∈r,(i:Int)<m:=⟨ns.map Int.toNat,by
  refine List.ext_getElem (by simp[Zdo]) λi h1 h2=>?_
  have:=hin _ (YY h1)
  simp[Zdo];omega,λi hi=>by
  obtain⟨y,hy,rfl⟩:=YH.mp hi
  have:=hin y hy
  omega⟩
 obtain⟨hl,m0,m1⟩:=id hf
 obtain⟨m,rfl⟩:=YR m0
 have hm:m<=12:=by omega
 replace hall:∀i∈r,i<m:=λi hi=>by have:=hall i hi;omega
 have eR:(ZbR r).length=r.length:=by simp[ZbR]
 replace hl:r.length<=12:=by simpa[Zdo]using hl
 have ht:SqL K Hx t (ZbR r)\/SqT K Hx t (ZbR r):=by rw[ZiD];exact ht0
 refine ZQ (fun σ Hy=>∃(a:Fa) (c:Nat->Nat->Nat) (T:List Int),σ=[some (.ref t),some (.int m),some (.ref a.x),none,none]/\Zl (Zdo r) T/\Hx a.rl=none/\Hx a.o=none/\WaysIs T m c/\ZbS mg Hy a T m c []/\Zg Hx Hy) (λR hR=>?_) ?_
 ·walk_at "rd"
  refine⟨t,Zdo r,rfl,by rw[<-ZiD];exact s1.q ht,by simp[Zdo];omega,λu T H2 hT s2 hu x2 dx zx zdx ne=>?_⟩
  have eN:=hT.1
  have eI:(Zdo r).length=r.length:=by simp[Zdo]
  have g:=((Zg.refl H2).upd (o:=.own x2) zdx).ZX (o:=.ins (cFi mg) dx []) (by rw[Zh (Ne.symm ne)];exact zx)
  have s12:=s1.trans s2
  refine⟨x2,dx,u,T,m,rfl,Zc,.inl (g _ _ hu),⟨by omega,_,hT⟩,by omega,hm,Zb6.same hTb (s12.trans g),λa c H3 ax at' zr zo e2 hW hF=>?_⟩
  subst ax at'
  have sF:Zg Hx H3:=λb o z=>e2 b o (Zr z (s12.free zx)) ((s12.trans g) b o z)
  exact⟨rfl,hR _ _ ⟨a,c,T,rfl,hT,(s12.trans g).free zr,(s12.trans g).free zo,hW,hF,sF⟩⟩
 clear s1 H1
 rintro σ H1 ⟨a,c,T',rfl,hT,zr,zo,hW,hF,s1⟩
 have eN:=hT.1
 have eI:(Zdo r).length=r.length:=by simp[Zdo]
 have hRow:=Zln hT hall
 have hG:ZT T':=⟨by omega,_,hT⟩
 walk_at "rd"
 refine walkL ht s1 λJ hgo hstop hy=>?_
 rw[eR]at hgo hstop
 refine Zek (n:=r.length) (λk σ Hy=>∃(v4:Option V),σ=[some (.ref t),some (.int m),some (.ref a.x),some (.int ((rkF T' c (fnR r) k:Nat):Int)),v4]/\ZbS mg Hy a T' m c (r.take k)/\Zg Hx Hy) ⟨none,rfl,by rw[List.take_zero];exact hF,s1⟩ (λk σ Hy hk ⟨_,_,_,sy⟩=>hgo k Hy sy hk) (fun σ Hy ⟨_,_,_,sy⟩=>hstop Hy sy) ?_ ?_
 ·clear hF s1
  rintro k x σ Hy Hy' hk ⟨v4,rfl,hF,sy⟩ y
  obtain⟨rfl,ex⟩:=hy k Hy x Hy' sy y
  rw[ZpU hk]at ex
  cases ex
  have hlk:(r.take k).length=k:=by rw[YW];omega
  have hpre:Zbe T' m (fnR r) (k+1):=hRow.2.le (by omega)
  have hab:=hpre.ab hT
  have eab:abV T' m (fnR (r.take k)) (r.take k).length=abV T' m (fnR r) k:=by rw[hlk];exact Zm3 λi hi=>Zlw hi
  have enw:nW T' c (fnR (r.take k)) (r.take k).length=nW T' c (fnR r) k:=by rw[hlk];exact ZiA hT (λi hi=>Zlw hi) (by omega) (Zh0 hT (by omega))
  have hallk:∀i∈r.take k,i<m:=λi hi=>hall i (List.mem_of_mem_take hi)
  have hm0:0<m:=by have:=(hpre k (by omega)).1;omega
  obtain⟨dx2,fs2,kv2,g1,⟨_,_,_,_,_,j6,_,_,_,_,j11⟩,_⟩:=id hF.1
  walk_at "rd"
  refine⟨dx2,fs2,Zx _ _ g1,j11,a,T',m,c,r.take k,rfl,hF,⟨hG,by omega,hm0,hm,hW,hallk,by omega⟩,by omega,λl H2 e2 hF2 hl2=>?_⟩
  rw[eab,enw]at hl2
  refine⟨l,rfl,_,SqL.of (Zx _ _ hl2),λp hp=>?_⟩
  have ecut:ZcV (ZaY (abV T' m (fnR r) k) (nW T' c (fnR r) k)) none (some ((fnR r k:Nat):Int))=((List.range (fnR r k)).map λj=>((nW T' c (fnR r) k j:Nat):Int)).map V.int:=by
   rw[Zmg,<-Zko]
   refine List.ext_getElem (by simp[ZaY];omega) λj j1 j2=>?_
   simp[ZaY]
  rw[ecut]
  have g:=(Zg.refl H2).upd (o:=.lst (((List.range (fnR r k)).map λj=>((nW T' c (fnR r) k j:Nat):Int)).map V.int)) hp
  have hF3:=Zas hF2 g
  obtain⟨dx3,fs3,kv3,g3,⟨_,_,_,_,_,i6,_⟩,_⟩:=id hF3.1
  have hlr:(ZbR (r.take k)).length<sizeLine:=Yu (show _<=12 by simp[ZbR];omega) (by decide)
  have eRV:ZbR (r.take k)++[V.int ((fnR r k:Nat):Int)]=ZbR (r.take (k+1)):=by rw[ZjW hk];simp[ZbR]
  refine⟨_,SqL.of Zc,dx3,fs3,Zx _ _ g3,_,i6,Z8 hF3.2,_,rfl,_,hF3.2,hlr,?_,⟨?_,by rw[Zc,eRV]⟩,?_⟩
  ·rw[(Zdn _ _).2]
   show _=((rkF T' c (fnR r) k+sumTo (nW T' c (fnR r) k) (fnR r k):Nat):Int)
   omega
  ·rw[ZgZ,ZjW hk]
   exact ZiC hT hF3.1 _
  ·have e3:Zg Hx (upd H2 p (.lst (((List.range (fnR r k)).map λj=>((nW T' c (fnR r) k j:Nat):Int)).map V.int))):=λb o z=>g _ _ (e2 b o (Zr z zo) (sy _ _ z))
   exact e3.upd zr
 ·rintro σ Hy ⟨v4,rfl,hF,sy⟩
  walk_at "rd"
  exact k1 hf hin _ Hy sy
theorem Zkv {f:Addr}{fd:FuncData} (F:Fun K "_law_flat" "_law_flat" Zbc f fd) (Zeu:Callee P w K mg base "_law_over" 1 ["tree","place"] (ZdC K mg)) (T:Txt K mg):FnOk P w K mg base (CXE P w) 2 f fd ["tree"] (ZdF K mg):=by
 refine F.okX Zks (λvs H Q E h=>?_) (λcdv A outer s H vs Q E hr h=>?_)
 ·obtain⟨t,T,rfl,_⟩:=h;rfl
 obtain⟨t,T',rfl,ht,hn,hen,k1⟩:=h
 refine⟨_,(Zf (Zu (Zbn ["place","tree"] [none,some 0] rfl rfl rfl (Zaa rfl T.b_range (Za (Zi (Zt (K:=K) rfl) rfl T.b_len Yt (Za (pv 0) Zb)) Zb)) (λ_ _ _ _ _=>(Zv (i:=0) (show(["place","tree"]:List Str).Nodup from by decide +kernel) rfl (Or.inr rfl))) (λ_ _ _ _ _=>Za0) (λ_ _ _ _ _=>(Zi (Zt (K:=K) rfl) rfl T.b_len Yt (Za (Zbn ["other","place"] [none,some 0] rfl rfl rfl (Zpl (K:=K) rfl (Zk Zeu (hr.mono (by decide)) rfl Zy (Za (pv 1) (Za (pv 0) Zb)))) (λ_ _ _ _ _=>(Zv (i:=0) (show(["other","place"]:List Str).Nodup from by decide +kernel) rfl (Or.inl rfl))) (λ_ _ _ _ _=>Zef (Zn Zdf (pv 0) (pv 1) (Zs _))) (λ_ _ _ _ _=>(pv 0)) ZP) Zb))) ZP))),?_⟩
 walk_at "rd"
 have eL:(T'.map V.int).length=T'.length:=Yh ..
 have en:(((T'.map V.int).length:Nat):Int).toNat=T'.length:=by rw[eL];omega
 refine⟨_,.inr ht,by omega,by rw[eL];omega,?_⟩
 rw[en]
 refine comp_map (n:=T'.length) (λq=>V.int (ZbP T' q:Nat)) (Yu hn (by decide)) (λj Hx s hj=>hj) (λHx s=>Yd _) ?_ ?_
 ·rintro j x Hx Hy hj s ⟨rfl,rfl⟩
  have ej:((0:Int)+(j:Int))=(j:Int):=by omega
  rw[ej]
  walk_at "rd"
  refine⟨t,T',j,rfl,s.Zav ht,hn,hj,hen j hj,λw H2 hw s2 h2=>⟨w,rfl,⟨_,SqL.of h2⟩,ZgR (λo=>decide ((j:Int)<o)) h2 (by simp only[wayI,Yh];exact Yf (Zgf _ _ _) (by omega)) (λx Hz R hR=>?_) λl H3 s3 hl=>?_⟩⟩
  ·walk_at "rd"
   exact hR
  ·refine⟨l,rfl,_,.inl (SqL.of Zc),CW.next hj ?_ ((s.trans (s2.trans s3)).ZX hl)⟩
   have:((wayI T' j).filter λo=>decide ((j:Int)<o)).length=ZbP T' j:=by
    rw[Zej,List.filter_map,Yh]
    unfold ZbP
    refine Zdj λo ho=>?_
    rw[Bool.eq_iff_iff]
    simp
   rw[Yh,this]
 ·intro l' Hx s hl'
  have ed:(List.range T'.length).map (λq=>V.int (ZbP T' q:Nat))=(Zgh T').map V.int:=by simp[Zgh]
  rw[ed]
  exact k1 l' _ (s.free hl') (s.ZX hl') Zc
theorem ones_way (m:Nat) (c:Nat->Nat->Nat):(List.replicate ((m:Int)+2).toNat [V.int 1]).flatten=wayL m (cOf c none)++[V.int 1]:=by
 rw[show((m:Int)+2).toNat=m+2 by omega]
 refine List.ext_getElem (by simp[wayL]) λj j1 j2=>?_
 have e1:(List.replicate (m+2) [V.int 1]).flatten=List.replicate (m+2) (V.int 1):=by simp
 simp only[e1,List.getElem_replicate]
 by_cases h:j<m+1
 ·rw[Jb (by simp[wayL];omega)]
  simp[wayL,cOf]
 ·rw[Jc (by simp[wayL];omega)]
  simp
noncomputable def colV (m:Nat) (f:Nat->Nat) (k:Nat):List V:=(List.range (m+2)).map λj=>V.int (((if m<=j+k/\j<=m then f j else 0:Nat)):Int)
theorem colV_zero {m:Nat}{f:Nat->Nat} (h:f m=0):(List.replicate ((m:Int)+2).toNat [V.int 0]).flatten=colV m f 0:=by
 rw[show((m:Int)+2).toNat=m+2 by omega]
 refine List.ext_getElem (by simp[colV]) λj j1 j2=>?_
 have e1:(List.replicate (m+2) [V.int 0]).flatten=List.replicate (m+2) (V.int 0):=by simp
 simp only[e1,List.getElem_replicate]
 simp only[colV,List.getElem_map,List.getElem_range]
 by_cases z:m<=j+0/\j<=m
 ·rw[Yc z,show j=m by omega,h];rfl
 ·rw[Yb z];rfl
theorem colV_step {m k:Nat}{f:Nat->Nat}{x:V} (hk:k<m):((colV m f k).set (m-1-k) x).set (m-1-k) (V.int ((f (m-1-k):Nat):Int))=colV m f (k+1):=by
 rw[List.set_set]
 refine List.ext_getElem (by simp[colV]) λj j1 j2=>?_
 rw[List.getElem_set]
 simp only[colV,List.getElem_map,List.getElem_range]
 by_cases e:m-1-k=j
 ·rw[Yc e,<-e,Yc (by omega)]
 ·rw[Yb e]
  congr 3
  by_cases z:m<=j+k/\j<=m
  ·simp[z];omega
  ·have:¬ (m<=j+(k+1)/\j<=m):=λy=>z ⟨by omega,y.2⟩
   simp only[eq_iff_iff]
   exact⟨λy=>absurd y z,λy=>absurd y this⟩
theorem colV_all {m:Nat}{f:Nat->Nat}:colV m f m=wayL m f++[V.int 0]:=by
 refine List.ext_getElem (by simp[colV,wayL]) λj j1 j2=>?_
 simp only[colV,List.getElem_map,List.getElem_range]
 by_cases h:j<m+1
 ·rw[Jb (by simp[wayL];omega),Yc (by omega)]
  simp[wayL]
 ·rw[Jc (by simp[wayL];omega),Yb (by omega)]
  simp
theorem ok__law_counted {f:Addr}{fd:FuncData}{n:Nat} (F:Fun K "_law_counted" "_law_counted" s__law_counted f fd) (Zap:Callee P w K mg base "_law_counted" (1+n) ["tree","place","least","m"] (sp__law_counted_R n K mg)) (T:Txt K mg):FnOk P w K mg base (CXE P w) (1+n+1) f fd ["tree","place","least","m"] (sp__law_counted_R (n+1) K mg):=by
 refine F.okX sc__law_counted (λvs H Q E h=>?_) (λcdv A outer s H vs Q E hr h=>?_)
 ·obtain⟨t,T,o,m,c,rfl,_⟩:=h;rfl
 obtain⟨t,T',o,m,c,rfl,ht,hG,hl,hm,hW,hP,k1⟩:=h
 refine⟨_,(Zd (ZK (Zn ZoQ (pv 1) ZcT (Zs _)) (Zf (Zu (Zp ZfG (ZO (Za Ze Zb)) (Zp ZZ (pv 3) Ze)))) Zw)
   (Zd (Zm (i:=4) sc__law_counted.nd rfl (Or.inl rfl) (ZO (Za ZcT (Za ZcT Zb))))
   (Zd (Zag (ZaC PassesOwn.never rfl (Zk9 (K:=K) rfl rfl T.b_enumerate (Za (pv 0) Zb)) (ZfD (n:=2) rfl (ZW (Zv (i:=5) sc__law_counted.nd rfl (Or.inl rfl)) (ZW (Zv (i:=6) sc__law_counted.nd rfl (Or.inl rfl)) Zb3))) (Zf (ZK (Zn ZaZ (pv 6) (pv 1) (Zs _)) (Zf (Zbx (pv 5) (ZcU (pv 4) (ZaK ZjG rfl T.b_int Zl6 (Za (ZcG Zdf (pv 5) (pv 1) (Zs _)) Zb)) set_list (λ_=>rfl)))) Zw))))
   (Zd (Zm (i:=7) sc__law_counted.nd rfl (Or.inl rfl) (Zk Zap (hr.mono (by omega)) rfl Zy (Za (pv 0) (Za (ZF ZA (pv 4) Ze (λ_ _=>rfl)) (Za (pv 2) (Za (pv 3) Zb))))))
   (Zd (Zm (i:=8) sc__law_counted.nd rfl (Or.inl rfl) (Zk Zap (hr.mono (by omega)) rfl Zy (Za (pv 0) (Za (ZF ZA (pv 4) Ze (λ_ _=>rfl)) (Za (pv 2) (Za (pv 3) Zb))))))
   (Zd (Zm (i:=9) sc__law_counted.nd rfl (Or.inl rfl) (Zp ZfG (ZO (Za Ze Zb)) (Zp ZZ (pv 3) Ze)))
   (Zd (Zag (ZaC PassesOwn.never rfl (ZnO rfl T.b_range (Za (Zp Zbj (pv 3) Ze) (Za (Zp Zbj (pv 2) Ze) (Za (Zbw ZaD Ze) Zb)))) (Zv (i:=10) sc__law_counted.nd rfl (Or.inl rfl)) (Zd (Zm (i:=11) sc__law_counted.nd rfl (Or.inl rfl) (ZF ZA (pv 7) (Zp ZZ (pv 10) Ze) (λ_ _=>rfl)))
   (Zd (Zbx (Zp ZaM (pv 11) (ZF ZA (pv 8) (pv 10) (λ_ _=>rfl))) (ZcU (pv 9) (pv 10) set_list (λ_=>rfl)))
   (Zf (Zbx (Zp ZZ (ZF ZA (pv 9) (pv 10) (λ_ _=>rfl)) (ZF ZA (pv 9) (Zp ZZ (pv 10) Ze) (λ_ _=>rfl))) (ZcU (pv 9) (pv 10) set_list (λ_=>rfl))))))))
   (Zf (Zu (pv 9)))))))))),?_⟩
 cases o with
 |none =>
  walk_at "rd"
  refine ZE (λ_=>⟨by decide,λp hp=>⟨_,Zc,by omega,by omega,?_,λp1 hp1=>?_⟩⟩) λz=>absurd rfl z
  ·exact Yf (show _<=1000 by simp;omega) (by decide)
  ·have g:=(Zg.refl H).upd (o:=.lst [V.int 1]) hp
   exact k1 p1 1 _ (g.free hp1) (g.ZX hp1) (by rw[Zc,ones_way m c])
 |some v =>
  obtain⟨hv,hvn⟩:=hP
  obtain⟨_,ns,hT⟩:=id hG
  have eN:=hT.1
  obtain⟨ah,bh,hA,hB,heq⟩:=hW v hv
  have hvn':0<n:=by
   have h3:=way_nd hT _ v hv (Yd _)
   have nd:(v::way T' v).Nodup:=List.nodup_cons.mpr ⟨h3.2,h3.1⟩
   have:=nd_few (n:=T'.length) nd (λq hq=>by
    rcases Yl.mp hq with z|z
    ·rw[z];exact hv
    ·have:=((Zbo hT (by omega)).mp z).1;omega)
   rw[Yq]at this
   omega
  obtain⟨n',rfl⟩:∃n',n=n'+1:=⟨n-1,by omega⟩
  have kidOk:∀o:Option Nat,(∀q,o=some q->nth T' q=v/\q<T'.length)->PlaceOk T' (n'+1) o:=λo ho=>by
   cases o with
   |none=>exact hvn'
   |some q =>
    obtain⟨x1,x2⟩:=ho q rfl
    refine⟨x2,?_⟩
    rw[ZaG hT (by omega) x1,Yq];omega
  have okA:=kidOk ah (λq e=>by subst e;exact⟨hA.2.2,hA.2.1⟩)
  have okB:=kidOk bh (λq e=>by subst e;exact⟨hB.2.2,hB.2.1⟩)
  have hbits:∀o:Option Nat,(∀q,o=some q->q<T'.length)->∀j,j<=m->cOf c o j<2 ^ 100000:=λo ho j hj=>by
   cases o with
   |none=>exact Nat.one_lt_two_pow (n:=100000) (by decide)
   |some q =>
    have:=way_bits hT hm (P:=λp=>p<T'.length) (λp hp=>⟨hp,by
     obtain⟨a,b,x1,x2,x3⟩:=hW p hp
     exact⟨a,b,x1,x2,(λq e=>by subst e;exact x1.2.1),(λq e=>by subst e;exact x2.2.1),x3⟩⟩) 12 q (ho q rfl) (by omega) j hj
    exact Ys this (Nat.pow_le_pow_right (by decide) (bitF_le 12 (by decide)))
  have bitA:=hbits ah (λq e=>by subst e;exact hA.2.1)
  have bitB:=hbits bh (λq e=>by subst e;exact hB.2.1)
  refine ZQ (fun σ Hx=>σ=[some (.ref t),some (.int v),some (.int 0),some (.int m),none,none,none,none,none,none,none,none]/\Hx=H) (λR hR=>?_) ?_
  ·walk_at "rd"
   exact ZE (λz=>nomatch z) λ_=>hR _ _ ⟨rfl,rfl⟩
  rintro σ H ⟨rfl,rfl⟩
  refine ZQ (fun σ Hx=>∃h:Addr,σ=[some (.ref t),some (.int v),some (.int 0),some (.int m),some (.ref h),none,none,none,none,none,none,none]/\H h=none/\Hx h=some (.lst [.non,.non])/\Zg H Hx) (λR hR=>?_) ?_
  ·walk_at "rd"
   exact⟨by decide,λh hh=>hR _ _ ⟨h,rfl,hh,Zc,(Zg.refl _).upd hh⟩⟩
  rintro σ H1 ⟨h,rfl,zh,hh,s1⟩
  have eL:(T'.map V.int).length=T'.length:=Yh ..
  have toA:∀{o:Option Nat},AheadTo T' T'.length v o->AheadIs T' v o:=λ{o} x=>by
   cases o with
   |none=>exact λc c1 c2=>x c c1 c2
   |some c=>exact x
  have toB:∀{o:Option Nat},BehindTo T' T'.length v o->BehindIs T' v o:=λ{o} x=>by
   cases o with
   |none=>exact λc c1 c2=>x c c1 c2
   |some c=>exact x
  refine ZQ (fun σ Hx=>∃v5 v6,σ=[some (.ref t),some (.int v),some (.int 0),some (.int m),some (.ref h),v5,v6,none,none,none,none,none]/\Hx h=some (.lst [optN ah,optN bh])/\Zg H Hx) (λR hR=>?_) ?_
  ·walk_at "rd"
   refine⟨_,s1.Zav ht,?_⟩
   refine Zek (n:=T'.length) (λj σ Hx=>∃(v5 v6:Option V) (a b:Option Nat),σ=[some (.ref t),some (.int v),some (.int 0),some (.int m),some (.ref h),v5,v6,none,none,none,none,none]/\AheadTo T' j v a/\BehindTo T' j v b/\Hx h=some (.lst [optN a,optN b])/\Zg H Hx) ⟨none,none,none,none,rfl,(λc _ hc=>absurd hc (by omega)),(λc _ hc=>absurd hc (by omega)),hh,s1⟩ (λj σ Hx hj ⟨_,_,_,_,_,_,_,_,sx⟩=>⟨_,_,sx.Zav ht,Yi (by rw[eL];exact hj)⟩) (fun σ Hx ⟨_,_,_,_,_,_,_,_,sx⟩=>⟨_,sx.Zav ht,eL⟩) ?_ ?_
   ·rintro j x σ Hx Hx' hj ⟨v5,v6,a,b,rfl,hAj,hBj,hhx,sx⟩ ⟨q,x,hq,rfl,rfl,hx⟩
    have ex:=hx _ (sx.Zav ht)
    rw[nthV hj]at ex
    cases ex
    have g:=(Zg.refl Hx).upd (o:=.tup [.int (j:Int),.int (nth T' j)]) hq
    have tq:=Zc (H:=Hx) (a:=q) (o:=.tup [.int (j:Int),.int (nth T' j)])
    generalize upd Hx q (.tup [.int (j:Int),.int (nth T' j)])=Hy at g tq⊢
    have hhy:=g _ _ hhx
    have sy:=sx.trans g
    walk_at "rd"
    refine⟨_,SqT.of tq,rfl,_,_,rfl,_,_,rfl,rfl,rfl,ZE (λe=>?_) λe=>⟨a,hAj.skip (λz=>e (by rw[z.2])),b,hBj.skip (λz=>e (by rw[z.2])),hhy,sy⟩⟩
    have e':nth T' j=v:=by simpa using e
    have njv:j≠v:=λz=>by
     subst z
     have h3:=way_nd hT _ j hj (Yd _)
     rw[ZaG hT (by omega) e']at h3
     exact h3.2 (by simp)
    by_cases hjv:v<j
    ·exact⟨_,rfl,_,hhy,1,by rw[Yc (by omega)];rfl,a,hAj.skip (λz=>by omega),some j,⟨hjv,by omega,e'⟩,by rw[Zc];rfl,sy.upd zh⟩
    ·exact⟨_,rfl,_,hhy,0,by rw[Yb (by omega)];rfl,some j,⟨by omega,by omega,e'⟩,b,hBj.skip (λz=>by omega),by rw[Zc];rfl,sy.upd zh⟩
   ·rintro σ Hx ⟨v5,v6,a,b,rfl,hAj,hBj,hhx,sx⟩
    obtain rfl:=ahead_one hT hA (toA hAj)
    obtain rfl:=behind_one hT hB (toB hBj)
    exact hR _ _ ⟨v5,v6,rfl,hhx,sx⟩
  clear hh s1 H1
  rintro σ H1 ⟨v5,v6,rfl,hh,s1⟩
  refine ZQ (fun σ Hx=>∃(la:Addr) (z:Int),σ=[some (.ref t),some (.int v),some (.int 0),some (.int m),some (.ref h),v5,v6,some (.ref la),none,none,none,none]/\Hx la=some (.lst (wayL m (cOf c ah)++[.int z]))/\Hx h=some (.lst [optN ah,optN bh])/\Zg H Hx) (λR hR=>?_) ?_
  ·walk_at "rd"
   exact⟨_,SqL.of hh,_,rfl,t,T',ah,m,c,rfl,s1.Zav ht,hG,hl,hm,hW,okA,λl z H2 zl s2 hl2=>hR _ _ ⟨l,z,rfl,hl2,s2 _ _ hh,s1.trans s2⟩⟩
  clear hh s1 H1
  rintro σ H1 ⟨la,za,rfl,hla,hh,s1⟩
  refine ZQ (fun σ Hx=>∃(lb:Addr) (z:Int),σ=[some (.ref t),some (.int v),some (.int 0),some (.int m),some (.ref h),v5,v6,some (.ref la),some (.ref lb),none,none,none]/\Hx lb=some (.lst (wayL m (cOf c bh)++[.int z]))/\Hx la=some (.lst (wayL m (cOf c ah)++[.int za]))/\Zg H Hx) (λR hR=>?_) ?_
  ·walk_at "rd"
   exact⟨_,SqL.of hh,_,rfl,t,T',bh,m,c,rfl,s1.Zav ht,hG,hl,hm,hW,okB,λl z H2 zl s2 hl2=>hR _ _ ⟨l,z,rfl,hl2,s2 _ _ hla,s1.trans s2⟩⟩
  clear hh hla s1 H1
  rintro σ H1 ⟨lb,zb,rfl,hlb,hla,s1⟩
  refine ZQ (fun σ Hx=>∃(lm:Addr),σ=[some (.ref t),some (.int v),some (.int 0),some (.int m),some (.ref h),v5,v6,some (.ref la),some (.ref lb),some (.ref lm),none,none]/\H lm=none/\lm≠la/\lm≠lb/\Hx lm=some (.lst (colV m (c v) 0))/\Hx lb=some (.lst (wayL m (cOf c bh)++[.int zb]))/\Hx la=some (.lst (wayL m (cOf c ah)++[.int za]))/\Zg H Hx) (λR hR=>?_) ?_
  ·walk_at "rd"
   refine⟨by decide,λp hp=>⟨_,Zc,by omega,by omega,?_,λp1 hp1=>?_⟩⟩
   ·exact Yf (show _<=1000 by simp;omega) (by decide)
   ·have g:=(Zg.refl H1).upd (o:=.lst [V.int 0]) hp
    have g2:=g.ZX (o:=.lst (List.replicate ((m:Int)+2).toNat [V.int 0]).flatten) hp1
    refine hR _ _ ⟨p1,rfl,s1.free (g.free hp1),(Zr hla (g.free hp1)).symm,(Zr hlb (g.free hp1)).symm,?_,g2 _ _ hlb,g2 _ _ hla,s1.trans g2⟩
    rw[Zc,colV_zero (f:=c v) (by rw[heq m (Yd _),Yc rfl])]
  clear hlb hla s1 H1
  rintro σ H1 ⟨lm,rfl,zm,nma,nmb,hlm,hlb,hla,s1⟩
  walk_at "rd"
  refine⟨by omega,by omega,by decide,by decide,?_⟩
  rw[show((m:Int)-1-(0-1)).toNat=m by omega,show((m:Int)-1+1-((m:Nat):Int))=0 by omega]
  refine Zek (n:=m) (λk σ Hx=>∃v10 v11,σ=[some (.ref t),some (.int v),some (.int 0),some (.int m),some (.ref h),v5,v6,some (.ref la),some (.ref lb),some (.ref lm),v10,v11]/\Hx lm=some (.lst (colV m (c v) k))/\Hx lb=some (.lst (wayL m (cOf c bh)++[.int zb]))/\Hx la=some (.lst (wayL m (cOf c ah)++[.int za]))/\Zg H Hx) ⟨none,none,rfl,hlm,hlb,hla,s1⟩ (λk σ Hx hk _=>hk) (fun σ Hx _=>Yd _) ?_ ?_
  ·rintro k x σ Hx Hx' hk ⟨v10,v11,rfl,h1,h2,h3,sx⟩ ⟨rfl,rfl⟩
   rw[show((0:Int)+(m:Int)-1-(k:Int))=((m-1-k:Nat):Int) by omega]
   walk_at "rd"
   have e1:(((m-1-k:Nat):Int)+1)=((m-k:Nat):Int):=by omega
   have lc:(colV m (c v) k).length=m+2:=by simp[colV]
   have hc:=heq (m-1-k) (by omega)
   rw[Yb (by omega),show m-1-k+1=m-k by omega]at hc
   refine⟨_,SqL.of h3,_,by rw[e1];exact wayLz_at (by omega),_,SqL.of h2,_,wayLz_at (by omega),_,rfl,_,rfl,mulBig (bitA _ (by omega)) (bitB _ (by omega)),_,h1,m-1-k,by rw[lc];exact Zdz (by omega),_,SqL.of Zc,_,Zbk (List.getElem?_set_self (by omega)),_,SqL.of Zc,V.int ((c v (m-k):Nat):Int),?_,_,rfl,_,rfl,_,Zc,m-1-k,by rw[List.length_set,lc];exact Zdz (by omega),?_,?_,?_,(sx.upd zm).upd zm⟩
   ·rw[e1]
    exact Zbk (by rw[List.getElem?_set_ne (by omega)];simp[colV,show m-k<m+2 by omega,show m<=m-k+k by omega])
   ·rw[Zc,<-Int.natCast_mul,<-Int.natCast_add,<-hc,colV_step hk]
   ·rw[Zh nmb.symm,Zh nmb.symm];exact h2
   ·rw[Zh nma.symm,Zh nma.symm];exact h3
  ·rintro σ Hx ⟨v10,v11,rfl,h1,h2,h3,sx⟩
   walk_at "rd"
   exact k1 lm 0 Hx zm sx (by rw[h1,colV_all];rfl)
theorem ok__law_many {f:Addr}{fd:FuncData} (F:Fun K "_law_many" "_law_many" s__law_many f fd) (Zap:Callee P w K mg base "_law_counted" 14 ["tree","place","least","m"] (sp__law_counted K mg)) (T:Txt K mg):FnOk P w K mg base (CXE P w) 15 f fd ["tree","m"] (sp__law_many K mg):=by
 refine F.okX sc__law_many (λvs H Q E h=>?_) (λcdv A outer s H vs Q E hr h=>?_)
 ·obtain⟨t,T,m,c,rfl,_⟩:=h;rfl
 obtain⟨t,T',m,c,rfl,ht,hG,hl,hm,hW,k1⟩:=h
 refine⟨_,(Zd (ZK (Zn (Zkb (K:=K) rfl hr) (pv 0) (Zck Zb) (Zs _)) (Zf (Zu Ze)) Zw)
   (Zf (Zu (ZF ZA (Zk Zap (hr.mono (by decide)) rfl Zy (Za (pv 0) (Za (ZpF PySem.F.slot_tuple_index PySem.F.type_tuple_index (ZjR (K:=K) rfl) (pv 0) (Za (Zbw ZaD Ze) Zb)) (Za Ze (Za (pv 1) Zb))))) Ze (λ_ _=>rfl))))),?_⟩
 walk_at "rd"
 refine⟨Yn _,λp hp=>?_⟩
 have g:=(Zg.refl H).upd (o:=.tup []) hp
 have htg:=ht.same g
 have e:=Zkc (n:=2) (K:=K) (H:=upd H p (.tup [])) Zgb (V.ref t) (V.ref p) T' [] (Zdh htg.sq) (Zdh (ns:=[]) (SqT.of Zc))
 refine⟨_,e,ZE (λz=>?_) λz=>?_⟩
 ·have hne:T'=[]:=Ja z
  have:topC T' c=1:=by unfold topC;rw[Yc hne]
  have:=k1 _ g
  rw[‹topC T' c=1›]at this
  exact this
 ·have hne:T'≠[]:=λy=>z (YL y)
  obtain⟨_,ns,hT⟩:=id hG
  have hm1:=top_in hT _ 0 (List.length_pos_iff.mpr hne) (Yd _)
  have hix:T'.idxOf (-1)<T'.length:=List.idxOf_lt_length_of_mem hm1
  refine⟨⟨_,htg⟩,T',htg.sq,hm1,t,T',some (T'.idxOf (-1)),m,c,rfl,htg.sq,hG,hl,hm,hW,⟨hix,by show T'.length+1<=13+_;omega⟩,λl z H2 zl s2 hl2=>⟨l,rfl,_,SqL.of hl2,_,wayLz_at (j:=0) (Yn _),?_⟩⟩
  have:topC T' c=c (T'.idxOf (-1)) 0:=by unfold topC;rw[Yb hne]
  have:=k1 _ (g.trans s2)
  rw[‹topC T' c=_›]at this
  exact this
theorem ZhK {f:Addr}{fd:FuncData} (F:Fun K "_law_is_tree" "_law_is_tree" Zam f fd) (Zbg:Callee P w K mg base "_law_tree" 1 ["row"] (sp__law_tree K mg)) (Zev:Callee P w K mg base "_law_flat" 2 ["tree"] (ZdF K mg)) (T:Txt K mg):FnOk P w K mg base (CXE P w) 3 f fd ["tree"] (ZbX K mg):=by
 refine F.okX Zay (λvs H Q E h=>?_) (λcdv A outer s H vs Q E hr h=>?_)
 ·obtain⟨t,T,rfl,_⟩:=h;rfl
 obtain⟨t,T',rfl,ht,hn,k1,k2⟩:=h
 refine⟨_,(Zd (ZK (Zn Zdf (Zi (Zt (K:=K) rfl) rfl T.b_len Yt (Za (pv 0) Zb)) Ze (Zs _)) (Zf (Zu ZcF)) Zw)
   (Zd (Zag (ZaC PassesOwn.never rfl (Zaa rfl T.b_range (Za (Zi (Zt (K:=K) rfl) rfl T.b_len Yt (Za (pv 0) Zb)) Zb)) (Zv (i:=1) Zay.nd rfl (Or.inl rfl)) (Zd (Zm (i:=2) Zay.nd rfl (Or.inl rfl) (pv 1))
   (Zd (Zag (ZaC PassesOwn.never rfl (Zaa rfl T.b_range (Za (Zi (Zt (K:=K) rfl) rfl T.b_len Yt (Za (pv 0) Zb)) Zb)) (Zv (i:=3) Zay.nd rfl (Or.inl rfl)) (Zf (ZK (Zn ZoP (pv 2) (Zbw ZaD Ze) (Zs _)) (Zd (Zm (i:=2) Zay.nd rfl (Or.inl rfl) (ZF Zbz (pv 0) (pv 2) (λ_ _=>rfl)))
   (Zf (ZK (Zaq (Zdg Zec Zcj (Zbw ZaD Ze) (pv 2) (Zi (Zt (K:=K) rfl) rfl T.b_len Yt (Za (pv 0) Zb)))) (Zf (Zu ZcF)) Zw))) Zw))))
   (Zf (ZK (Zn ZoP (pv 2) (Zbw ZaD Ze) (Zs _)) (Zf (Zu ZcF)) Zw))))))
   (Zf (Zu (ZcG (Zkb (K:=K) rfl hr) (pv 0) (Zk Zbg (hr.mono (by decide)) rfl Zy (Za (Zk Zev (hr.mono (by decide)) rfl Zy (Za (pv 0) Zb)) Zb)) (Zs _)))))),?_⟩
 walk_at "rd"
 have eL:(T'.map V.int).length=T'.length:=Yh ..
 have en:(((T'.map V.int).length:Nat):Int).toNat=T'.length:=by rw[eL];omega
 refine⟨_,.inr ht,ZE (λz=>k2 (λg=>?_) _ (Zg.refl H)) λz=>⟨_,.inr ht,by omega,by rw[eL];omega,?_⟩⟩
 ·rw[eL]at z;have:=g.1;omega
 rw[eL]at z
 rw[en]
 refine Za9 (λi σ Hx=>∃v1 v2 v3,σ=[some (.ref t),v1,v2,v3]/\Hx=H/\∀p:Nat,p<i->Za8 T' T'.length (p:Int)) ⟨_,_,_,rfl,rfl,λp hp=>absurd hp (by omega)⟩ ?_ ?_
 ·rintro i σ Hx hi ⟨v1,v2,v3,rfl,rfl,hE⟩
  have e0:((0:Int)+(i:Int))=(i:Int):=by omega
  rw[e0]
  refine ZQ (fun σ Hy=>σ=[some (.ref t),some (.int (i:Int)),some (.int (i:Int)),v3]/\Hy=Hx) (λR hR=>?_) ?_
  ·walk_at "rd"
   exact hR _ _ ⟨rfl,rfl⟩
  rintro σ Hy ⟨rfl,rfl⟩
  refine ZQ (fun σ Hz=>∃(h:Int) (v3:Option V),σ=[some (.ref t),some (.int (i:Int)),some (.int h),v3]/\Hz=Hy/\(h=-1->Za8 T' T'.length (i:Int))/\(ZT T'->h=-1)) (λR hR=>?_) ?_
  ·walk_at "rd"
   refine⟨_,.inr ht,by omega,by rw[eL];omega,?_⟩
   rw[en]
   refine Za9 (λj σ Hz=>∃(h:Int) (v3:Option V),σ=[some (.ref t),some (.int (i:Int)),some (.int h),v3]/\Hz=Hy/\-1<=h/\h<T'.length/\(∀k,Za8 T' k h->Za8 T' (k+j) (i:Int))/\∀ns,Zl ns T'->h=-1\/∃q:Nat,h=q/\dep (nth ns) ns.length q+j<=dep (nth ns) ns.length i) ⟨(i:Int),v3,rfl,rfl,by omega,by omega,λk h=>h,λns hT=>.inr ⟨i,rfl,by omega⟩⟩ ?_ ?_
   ·rintro j σ Hz hj ⟨h,v3,rfl,rfl,h0,h1,hk,hd⟩
    walk_at "rd"
    refine ZE (λzz=>?_) λzz=>?_
    ·obtain⟨q,rfl⟩:=YR (show 0<=h by omega)
     have gq:∀ns,Zl ns T'->nth T' q=-1\/∃r:Nat,nth T' q=r/\r<T'.length/\dep (nth ns) ns.length q=dep (nth ns) ns.length r+1:=λns hT=>by
      have:=hT.1
      rcases ZbO hT (show q<ns.length by omega)with y|⟨r,y1,y2,_,y3⟩
      ·exact .inl y
      ·exact .inr ⟨r,y1,by omega,y3⟩
     have no:¬ (-1<=nth T' q/\nth T' q<T'.length)->Q (.bl false) Hz:=λy=>k2 (λg=>by
      obtain⟨_,ns,hT⟩:=g
      rcases gq ns hT with y1|⟨r,y1,y2,_⟩<;>omega) _ (Zg.refl Hz)
     refine⟨_,ht,_,Za7 (by omega),?_⟩
     have fin:-1<=nth T' q->nth T' q<T'.length->(∀k,Za8 T' k (nth T' q)->Za8 T' (k+(j+1)) (i:Int))/\∀ns,Zl ns T'->nth T' q=-1\/∃r:Nat,nth T' q=r/\dep (nth ns) ns.length r+(j+1)<=dep (nth ns) ns.length i:=λy1 y2=>by
      refine⟨λk hk2=>?_,λns hT=>?_⟩
      ·have e:k+(j+1)=(k+1)+j:=by omega
       rw[e]
       refine hk (k+1) (.inr ⟨by omega,by omega,?_⟩)
       have eq:((q:Int)).toNat=q:=by omega
       rw[eq];exact hk2
      ·rcases gq ns hT with y|⟨r,y3,y4,y5⟩
       ·exact .inl y
       ·rcases hd ns hT with w|⟨q',w1,w2⟩
        ·omega
        ·have:q'=q:=by omega
         subst this
         exact .inr ⟨r,y3,by omega⟩
     exact⟨_,rfl,ZE (λy1=>⟨_,.inr ht,_,rfl,ZE (λy2=>no (by rw[eL]at y2;omega)) λy2=>⟨_,rfl,y1,by rw[eL]at y2;omega,(fin y1 (by rw[eL]at y2;omega)).1,(fin y1 (by rw[eL]at y2;omega)).2⟩⟩) λy1=>no (by omega)⟩
    ·have hm:h=-1:=by omega
     refine⟨h0,h1,λk hk2=>?_,λns hT=>.inl hm⟩
     exact Zel T' _ _ (hk k hk2)
   ·rintro σ Hz ⟨h,v3,rfl,rfl,h0,h1,hk,hd⟩
    refine hR _ _ ⟨h,v3,rfl,rfl,λe=>?_,λg=>?_⟩
    ·have:=hk 0 (by rw[e];exact Zmi T' 0)
     simpa using this
    ·obtain⟨_,ns,hT⟩:=g
     have:=hT.1
     rcases hd ns hT with y|⟨q,y1,y2⟩
     ·exact y
     ·have:=Zij (f:=nth ns) (n:=ns.length) (p:=i) (by omega)
      omega
  rintro σ Hz ⟨h,v3,rfl,rfl,hE2,hG⟩
  walk_at "rd"
  refine ZE (λy=>k2 (λg=>y (hG g)) _ (Zg.refl Hz)) λy=>λp hp=>?_
  by_cases e:p=i
  ·rw[e];exact hE2 (by omega)
  ·exact hE p (by omega)
 ·rintro σ Hx ⟨v1,v2,v3,rfl,rfl,hE⟩
  have hE':∀p,p<T'.length->Za8 T' T'.length (nth T' p):=λp hp=>by
   have h:=hE p hp
   cases hT:T'.length with
   |zero=>omega
   |succ n =>
    rw[hT]at h
    rcases h with h|⟨_,_,h⟩
    ·omega
    ·have ep:((p:Int)).toNat=p:=by omega
     rw[ep]at h
     exact Zel T' _ _ h
  walk_at "rd"
  refine⟨t,T',rfl,ht,by omega,hE',λw H1 hw s1 h1=>⟨w,Zgh T',rfl,.inl (SqL.of h1),by rw[ZgP];omega,λu es H2 zu hT2 s2 hu=>⟨u,rfl,_,Zkc (n:=2) Zgb _ _ T' es (Zdh ((s1.trans s2).Zav ht)) (Zdh hu.sq),?_⟩⟩⟩
  by_cases g:ZT T'
  ·obtain⟨_,ns,hT⟩:=id g
   rw[YL ((Zny hT).unique hT2)]
   exact k1 g _ (s1.trans s2)
  ·have:¬ T'=es:=λe=>by subst e;exact g ⟨by omega,_,hT2⟩
   rw[YJ this]
   exact k2 g _ (s1.trans s2)
theorem Zkw {f:Addr}{fd:FuncData} (F:Fun K "_law_bent" "_law_bent" Zbd f fd) (Zq:Callee P w K mg base "_law_take" 1 ["pot","many"] (sp__law_take K mg)) (T:Txt K mg):FnOk P w K mg base (CXE P w) 2 f fd ["pot","tree"] (ZdE K mg):=by
 refine F.okX Zbp (λvs H Q E h=>?_) (λcdv A outer s H vs Q E hr h=>?_)
 ·obtain⟨p,t,T,rfl,_⟩:=h;rfl
 obtain⟨p,t,T',rfl,hP,ht,hn,k1⟩:=h
 refine⟨_,(Zd (Zm (i:=2) Zbp.nd rfl (Or.inl rfl) (ZaK (Zl9 (K:=K) rfl) rfl T.b_list Zre (Za (pv 1) Zb)))
   (Zd (Zm (i:=3) Zbp.nd rfl (Or.inl rfl) (Zk Zq (hr.mono (by decide)) rfl Zy (Za (pv 0) (Za (Zp ZZ (Zi (Zt (K:=K) rfl) rfl T.b_len Yt (Za (pv 2) Zb)) Ze) Zb))))
   (Zd (Zm (i:=4) Zbp.nd rfl (Or.inl rfl) (Zp Zbj (Zk Zq (hr.mono (by decide)) rfl Zy (Za (pv 0) (Za (Zp ZZ (Zi (Zt (K:=K) rfl) rfl T.b_len Yt (Za (pv 2) Zb)) Ze) Zb))) Ze))
   (Zd (Zm (i:=5) Zbp.nd rfl (Or.inl rfl) (Zk Zq (hr.mono (by decide)) rfl Zy (Za (pv 0) (Za Ze Zb))))
   (Zd (ZK (PW.pt (ZbT (Zn ZaZ (pv 5) Ze (Zs _)) (Za2 (Zn Zcj (pv 3) (Zi (Zt (K:=K) rfl) rfl T.b_len Yt (Za (pv 2) Zb)) (Zs _))))) (Zf (Zbx (pv 4) (ZcU (pv 2) (pv 3) set_list (λ_=>rfl)))) Zw)
   (Zd (ZK (PW.pt (ZbT (Zn ZaZ (pv 5) Ze (Zs _)) (Za2 (Zn Zcj (pv 3) (Zi (Zt (K:=K) rfl) rfl T.b_len Yt (Za (pv 2) Zb)) (Zs _))))) (Zf (Zbx (ZF Zbz (Zck (Za (Zp Zby Ze Ze) (Za (Zbw ZaD Ze) (Za (Zbw ZaD (Zp Zby Ze Ze)) (Za (pv 3) Zb))))) (Zk Zq (hr.mono (by decide)) rfl Zy (Za (pv 0) (Za Ze Zb))) (λ_ _=>rfl)) (ZcU (pv 2) (pv 3) set_list (λ_=>rfl)))) Zw)
   (Zd (ZK (Zn ZaZ (pv 5) Ze (Zs _)) (Zf (Z4 (Zcl PySem.F.plainAttrs_list PySem.F.slot_list_insert PySem.F.type_list_insert ZjF (pv 2) (Za (pv 3) (Za (pv 4) Zb))))) Zw)
   (Zd (ZK (PW.pt (ZbT (Zn ZaZ (pv 5) Ze (Zs _)) (Za2 (Zn Zcj (pv 3) (Zi (Zt (K:=K) rfl) rfl T.b_len Yt (Za (pv 2) Zb)) (Zs _))))) (Zf (Z4 (Zcl PySem.F.plainAttrs_list PySem.F.slot_list_pop PySem.F.type_list_pop ZoW (pv 2) (Za (pv 3) Zb)))) Zw)
   (Zd (ZK (PW.pt (ZbT (Zn ZaZ (pv 5) Ze (Zs _)) (Za2 (Zn Zcj (Zp ZZ (pv 3) Ze) (Zi (Zt (K:=K) rfl) rfl T.b_len Yt (Za (pv 2) Zb)) (Zs _))))) (Zf (Zbx (ZO (Za (ZF ZA (pv 2) (Zp ZZ (pv 3) Ze) (λ_ _=>rfl)) (Za (ZF ZA (pv 2) (pv 3) (λ_ _=>rfl)) Zb))) (Zpj (pv 2) (pv 3) (Zp ZZ (pv 3) Ze) (λ_=>rfl)))) Zw)
   (Zf (Zu (ZaK (ZjS (K:=K) rfl) rfl T.b_tuple ZbN (Za (pv 2) Zb))))))))))))),?_⟩
 have eL:(T'.map V.int).length=T'.length:=Yh ..
 refine ZQ (fun σ Hy=>∃m,σ=[some (.ref p),some (.ref t),some (.ref m),none,none,none]/\H m=none/\m≠p/\Hy m=some (.lst (T'.map V.int))/\ZL Hy p/\Exc p H Hy) (λR hR=>?_) ?_
 ·walk_at "rd"
  exact⟨_,.inr ht,λm hm=>hR _ _ ⟨m,rfl,hm,hP.ne hm,Zc,hP.upd hm,(Zg.refl H).Zfv.Zeg hm⟩⟩
 rintro σ H1 ⟨m,rfl,zm,nmp,hm1,P1,e1⟩
 refine ZQ (fun σ Hy=>∃a:Nat,σ=[some (.ref p),some (.ref t),some (.ref m),some (.int (a:Int)),none,none]/\a<=T'.length/\Hy m=some (.lst (T'.map V.int))/\ZL Hy p/\Exc p H Hy) (λR hR=>?_) ?_
 ·walk_at "rd"
  refine⟨_,.inl (SqL.of hm1),p,_,rfl,by omega,by rw[eL];omega,P1,λd H2 d0 d1 P2 e2=>?_⟩
  rw[eL]at d1
  obtain⟨a,rfl⟩:=YR d0
  exact hR _ _ ⟨a,rfl,by omega,e2 _ _ nmp hm1,P2,e1.trans e2⟩
 clear hm1 P1 e1 H1
 rintro σ H1 ⟨a,rfl,ha,hm1,P1,e1⟩
 refine ZQ (fun σ Hy=>∃o:Int,σ=[some (.ref p),some (.ref t),some (.ref m),some (.int (a:Int)),some (.int o),none]/\Hy m=some (.lst (T'.map V.int))/\ZL Hy p/\Exc p H Hy) (λR hR=>?_) ?_
 ·walk_at "rd"
  exact⟨_,.inl (SqL.of hm1),p,_,rfl,by omega,by rw[eL];omega,P1,λd H2 d0 d1 P2 e2=>⟨d,rfl,hR _ _ ⟨d-1,rfl,e2 _ _ nmp hm1,P2,e1.trans e2⟩⟩⟩
 clear hm1 P1 e1 H1
 rintro σ H1 ⟨o,rfl,hm1,P1,e1⟩
 refine ZQ (fun σ Hy=>∃wy:Int,σ=[some (.ref p),some (.ref t),some (.ref m),some (.int (a:Int)),some (.int o),some (.int wy)]/\Hy m=some (.lst (T'.map V.int))/\ZL Hy p/\Exc p H Hy) (λR hR=>?_) ?_
 ·walk_at "rd"
  exact⟨p,_,rfl,by decide,by decide,P1,λd H2 d0 d1 P2 e2=>hR _ _ ⟨d,rfl,e2 _ _ nmp hm1,P2,e1.trans e2⟩⟩
 clear hm1 P1 e1 H1
 rintro σ H1 ⟨wy,rfl,hm1,P1,e1⟩
 have eM:∀M:List Int,(M.map V.int).length=M.length:=λM=>Yh ..
 refine ZQ (fun σ Hy=>∃M:List Int,σ=[some (.ref p),some (.ref t),some (.ref m),some (.int (a:Int)),some (.int o),some (.int wy)]/\M.length=T'.length/\Hy m=some (.lst (M.map V.int))/\ZL Hy p/\Exc p H Hy) (λR hR=>?_) ?_
 ·walk_at "rd"
  refine ZE (λ_=>⟨_,.inl (SqL.of hm1),ZE (λz=>⟨_,hm1,a,by rw[eL]at z⊢;exact Zdz (by omega),hR _ _ ⟨T'.set a o,rfl,by simp,by rw[Zc,List.map_set],P1.Zeg nmp,e1.Zeg zm⟩⟩) λ_=>hR _ _ ⟨T',rfl,rfl,hm1,P1,e1⟩⟩) λ_=>hR _ _ ⟨T',rfl,rfl,hm1,P1,e1⟩
 clear hm1 P1 e1 H1
 rintro σ H1 ⟨M,rfl,hM,hm1,P1,e1⟩
 refine ZQ (fun σ Hy=>∃M:List Int,σ=[some (.ref p),some (.ref t),some (.ref m),some (.int (a:Int)),some (.int o),some (.int wy)]/\M.length=T'.length/\Hy m=some (.lst (M.map V.int))/\ZL Hy p/\Exc p H Hy) (λR hR=>?_) ?_
 ·walk_at "rd"
  refine ZE (λ_=>⟨_,.inl (SqL.of hm1),ZE (λz=>?_) λ_=>hR _ _ ⟨M,rfl,hM,hm1,P1,e1⟩⟩) λ_=>hR _ _ ⟨M,rfl,hM,hm1,P1,e1⟩
  rw[eM]at z
  refine⟨cp59,cp59,by decide,λq hq=>⟨p,_,rfl,by decide,by decide,P1.upd hq,λd H2 d0 d1 P2 e2=>?_⟩⟩
  obtain⟨v,hv,y,rfl⟩:=Zfk (xs:=[V.int (10 ^ Int.toNat 59),V.int (-2),V.int (-10 ^ Int.toNat 59),V.int (a:Int)]) (i:=d) (λv=>∃y:Int,v=V.int y) d0 d1 (by
   intro x hx
   simp only[Yl,List.not_mem_nil,or_false]at hx
   rcases hx with rfl|rfl|rfl|rfl<;>exact⟨_,rfl⟩)
  have u1:=(Zg.refl H1).upd (o:=.tup [V.int (10 ^ Int.toNat 59),V.int (-2),V.int (-10 ^ Int.toNat 59),V.int (a:Int)]) hq
  exact⟨_,d,rfl,SqT.of (e2 _ _ (P1.ne hq) Zc),_,hv,_,e2 _ _ nmp (u1 _ _ hm1),a,by rw[eM];exact Zdz (by omega),hR _ _ ⟨M.set a y,rfl,by simp[hM],by rw[Zc,List.map_set],P2.Zeg nmp,((e1.same u1).trans e2).Zeg zm⟩⟩
 clear hm1 P1 e1 H1 hM M
 rintro σ H1 ⟨M,rfl,hM,hm1,P1,e1⟩
 refine ZQ (fun σ Hy=>∃M:List Int,σ=[some (.ref p),some (.ref t),some (.ref m),some (.int (a:Int)),some (.int o),some (.int wy)]/\M.length<=T'.length+1/\Hy m=some (.lst (M.map V.int))/\ZL Hy p/\Exc p H Hy) (λR hR=>?_) ?_
 ·walk_at "rd"
  refine ZE (λ_=>⟨Z8 hm1,_,hm1,by omega,by omega,Yu (show _<=1000 by rw[eM];omega) (by decide),hR _ _ ⟨M.take a++o::M.drop a,rfl,by simp;omega,by rw[Zc];simp,P1.Zeg nmp,e1.Zeg zm⟩⟩) λ_=>hR _ _ ⟨M,rfl,by omega,hm1,P1,e1⟩
 clear hm1 P1 e1 H1 hM M
 rintro σ H1 ⟨M,rfl,hM,hm1,P1,e1⟩
 refine ZQ (fun σ Hy=>∃M:List Int,σ=[some (.ref p),some (.ref t),some (.ref m),some (.int (a:Int)),some (.int o),some (.int wy)]/\M.length<=T'.length+1/\Hy m=some (.lst (M.map V.int))/\ZL Hy p/\Exc p H Hy) (λR hR=>?_) ?_
 ·walk_at "rd"
  refine ZE (λ_=>⟨_,.inl (SqL.of hm1),ZE (λz=>?_) λ_=>hR _ _ ⟨M,rfl,hM,hm1,P1,e1⟩⟩) λ_=>hR _ _ ⟨M,rfl,hM,hm1,P1,e1⟩
  rw[eM]at z
  refine⟨Z8 hm1,_,hm1,by omega,by omega,a,seqIx (by rw[eM];omega),_,Yi (by rw[eM];omega),?_⟩
  refine hR _ _ ⟨M.eraseIdx a,rfl,by rw[List.length_eraseIdx_of_lt (by omega)];omega,?_,P1.Zeg nmp,e1.Zeg zm⟩
  rw[Zc];simp[List.eraseIdx_eq_take_drop_succ]
 clear hm1 P1 e1 H1 hM M
 rintro σ H1 ⟨M,rfl,hM,hm1,P1,e1⟩
 refine ZQ (fun σ Hy=>∃M:List Int,σ=[some (.ref p),some (.ref t),some (.ref m),some (.int (a:Int)),some (.int o),some (.int wy)]/\M.length<=T'.length+1/\Hy m=some (.lst (M.map V.int))/\ZL Hy p/\Exc p H Hy) (λR hR=>?_) ?_
 ·walk_at "rd"
  refine ZE (λ_=>⟨_,.inl (SqL.of hm1),ZE (λz=>?_) λ_=>hR _ _ ⟨M,rfl,hM,hm1,P1,e1⟩⟩) λ_=>hR _ _ ⟨M,rfl,hM,hm1,P1,e1⟩
  rw[eM]at z
  have ea:((a:Int)+1)=((a+1:Nat):Int):=by omega
  have e2:((a:Int)+2).toNat=a+2:=by omega
  refine⟨_,SqL.of hm1,V.int (nth M (a+1)),by rw[ea];exact Za7 (by omega),_,SqL.of hm1,V.int (nth M a),Za7 (by omega),by decide,λq hq=>?_⟩
  have u1:=(Zg.refl H1).upd (o:=.lst [V.int (nth M (a+1)),V.int (nth M a)]) hq
  refine⟨_,u1 _ _ hm1,_,Zc,Zr hm1 hq,by omega,by omega,by rw[eM];omega,Yf (show _<=1000 by rw[eM];simp;omega) (by decide),?_⟩
  rw[e2]
  refine hR _ _ ⟨M.take a++[nth M (a+1),nth M a]++M.drop (a+2),rfl,by simp;omega,by rw[Zc];simp,(P1.same u1).Zeg nmp,(e1.same u1).Zeg zm⟩
 clear hm1 P1 e1 H1 hM M
 rintro σ H1 ⟨M,rfl,hM,hm1,P1,e1⟩
 walk_at "rd"
 exact⟨_,SqL.of hm1,λu H2 zu s2 hu=>k1 u M H2 (P1.ne zu) hu hM (P1.same s2) (e1.same s2)⟩
theorem ZhL {f:Addr}{fd:FuncData} (F:Fun K "_law_numbers" "_law_numbers" Zal f fd) (ZaT:Callee P w K mg base "_law_whole" 1 ["thing"] (sp__law_whole K mg)) (T:Txt K mg):FnOk P w K mg base (CXE P w) 2 f fd ["thing"] (ZbY K mg):=by
 refine F.okX ZhJ (λvs H Q E h=>?_) (λcdv A outer s H vs Q E hr h=>?_)
 ·obtain⟨t,T,rfl,_⟩:=h;rfl
 obtain⟨t,es,rfl,ht,hn,k1⟩:=h
 refine⟨_,(Zf (Zu (ZgG (Zi (ZjT (K:=K) rfl) rfl T.b_isinstance Zj (Za (pv 0) (Za (Zdr (v:=.ty "tuple") rfl T.b_tuple ZbN rfl) Zb))) (ZgF (Zi (Zie (K:=K) rfl rfl) rfl T.b_all Zma (Za (Zbn ["one"] [none] rfl rfl rfl (ZlX (pv 0)) (λ_ _ _ _ _=>(Zv (i:=0) (show(["one"]:List Str).Nodup from by decide +kernel) rfl (Or.inl rfl))) (λ_ _ _ _ _=>Za0) (λ_ _ _ _ _=>(Zk ZaT (hr.mono (by decide)) rfl Zy (Za (pv 0) Zb))) ZP) Zb)))))),?_⟩
 walk_at "rd"
 refine⟨_,SqT.of ht,⟨_,SqT.of ht⟩,?_⟩
 refine comp_map (n:=es.length) (λ_=>V.bl true) (Yu hn (by decide)) (λj Hx s hj=>⟨_,_,SqT.of (s _ _ ht),Yi (by simpa using hj)⟩) (λHx s=>⟨_,SqT.of (s _ _ ht),by simp⟩) ?_ ?_
 ·rintro j x Hx Hy hj s ⟨rfl,hx⟩
  have ex:=hx _ (SqT.of (s _ _ ht))
  rw[YC,Yi hj]at ex
  cases ex
  walk_at "rd"
  exact⟨_,rfl,CW.next hj rfl s⟩
 ·intro l' Hx s hl'
  refine⟨l',rfl,List.replicate es.length true,SqL.of (by rw[Zc,List.map_replicate,List.map_const',YZ]),?_⟩
  have:=k1 _ (s.ZX (o:=.lst ((List.range es.length).map λ_=>V.bl true)) hl')
  simpa using this
theorem clsN2 (mg:Str->Option Value):ZnW mg 2=clsAt mg "TooMany":=rfl
theorem clsN3 (mg:Str->Option Value):ZnW mg 3=clsAt mg "NoTree":=rfl
theorem clsN6 (mg:Str->Option Value):ZnW mg 6=clsAt mg "NoNumber":=rfl
theorem due3 {way:Nat}{T:List Int}{m x:Int} (h:way≠2) (g:¬ ZT T):Zft way T m x=some 3:=Yc ⟨h,g⟩
theorem due2 {way:Nat}{T:List Int}{m x:Int} (g:way=2\/ZT T) (h:way<3) (f:¬ ZaV T.length m):Zft way T m x=some 2:=by
 unfold Zft
 rw[Yb (λz=>g.elim z.1 z.2),Yc ⟨h,f⟩]
theorem due6 {T:List Int}{m x:Int} (g:ZT T) (f:ZaV T.length m) (h:¬ (0<=x/\x<(Zfw T m.toNat:Nat))):Zft 1 T m x=some 6:=by
 unfold Zft
 rw[Yb (λz=>z.2 g),Yb (λz=>z.2 f),Yc ⟨rfl,h⟩]
theorem due6r {T:List Int}{m x:Int} (f:ZaV T.length m) (h:¬ InB T m):Zft 2 T m x=some 6:=by
 unfold Zft
 rw[Yb (λz=>z.1 rfl),Yb (λz=>z.2 f),Yb (λz=>absurd z.1 (by decide)),Yc ⟨rfl,h⟩]
theorem Zn0 {way:Nat}{T:List Int}{m x:Int} (g:way=2\/ZT T) (f:¬ way<3\/ZaV T.length m) (h:way≠1\/(0<=x/\x<(Zfw T m.toNat:Nat))) (b:way≠2\/InB T m):Zft way T m x=none:=by
 unfold Zft
 rw[Yb (λz=>g.elim z.1 z.2),Yb (λz=>f.elim (λy=>y z.1) z.2),Yb (λz=>h.elim (λy=>y z.1) z.2),Yb (λz=>b.elim (λy=>y z.1) z.2)]
theorem Zfx.same {K:PySem.W.Frag}{H H':Hp}{way:Nat}{t:Addr}{T:List Int} (h:Zfx K H way t T) (s:Zg H H'):Zfx K H' way t T:=h.elim (λe=>.inl ⟨e.1,e.2.same s⟩) λe=>.inr ⟨e.1,s.q e.2⟩
theorem Zfx.q {K:PySem.W.Frag}{H:Hp}{way:Nat}{t:Addr}{T:List Int} (h:Zfx K H way t T):SqL K H t (T.map V.int)\/SqT K H t (T.map V.int):=h.elim (λe=>.inr e.2.sq) λe=>e.2
theorem Zfx.g {K:PySem.W.Frag}{H:Hp}{way:Nat}{t:Addr}{T:List Int} (h:Zfx K H way t T) (n:way≠2):Zcp H t T:=h.elim (λe=>e.2) λe=>absurd e.1 n
theorem Zji {f:Addr}{fd:FuncData} (F:Fun K "_law_heard" "_law_heard" ZaR f fd) (Zew:Callee P w K mg base "many_rows" 9 ["tree","m"] (sp_many_rows K mg)) (ZiG:Callee P w K mg base "row_at" 44 ["tree","m","number"] (Zg0 K mg)) (ZbZ:Callee P w K mg base "number_of_row" 44 ["row","m"] (ZbD K mg)) (Zc2:Callee P w K mg base "many_orders" 6 ["tree"] (Zcq K mg)) (T:Txt K mg):FnOk P w K mg base (CXE P w) 45 f fd ["way","one","m","number"] (Zc0 K mg):=by
 refine F.okX Z7 (λvs H Q E h=>?_) (λcdv A outer s H vs Q E hr h=>?_)
 ·obtain⟨way,t,T,m,x,rfl,_⟩:=h;rfl
 obtain⟨way,t,T',m,x,rfl,hway,hO,hlT,hTb,k1⟩:=h
 refine⟨_,(Zd (Zm (i:=4) Z7.nd rfl (Or.inl rfl) ZcT)
   (Zd (ps_try (j:=5) ⟨rfl,rfl⟩ Z7.nd rfl rfl rfl T.c_DipError T.x_DipError (λEc pl=>(Zf (ZK (Zn ZaZ (pv 0) Ze (Zs _)) (Zf (Zm (i:=4) Z7.nd rfl (Or.inl rfl) (Zfj Zew (hr.mono (by decide)) rfl ZmN (Za (pv 1) (Za (pv 2) Zb))))) (Zf (ZK (Zn ZaZ (pv 0) Ze (Zs _)) (Zf (Zm (i:=4) Z7.nd rfl (Or.inl rfl) (Zfj ZiG (hr.mono (by decide)) rfl ZmN (Za (pv 1) (Za (pv 2) (Za (pv 3) Zb)))))) (Zf (ZK (Zn ZaZ (pv 0) Ze (Zs _)) (Zf (Zm (i:=4) Z7.nd rfl (Or.inl rfl) (Zfj ZbZ (hr.mono (by decide)) rfl ZmN (Za (pv 1) (Za (pv 2) Zb))))) (Zf (Zm (i:=4) Z7.nd rfl (Or.inl rfl) (Zfj Zc2 (hr.mono (by decide)) rfl ZmN (Za (pv 1) Zb))))))))))) (λA'=>(Zf (Zm (i:=4) Z7.nd rfl (Or.inl rfl) (pv 5)))))
   (Zf (Zu (pv 4))))),?_⟩
 walk_at "rd"
 refine⟨fun σ1 C _ H1=>∃k,(k=2\/k=3\/k=6)/\Zft way T' m x=some k/\σ1=[some (.int way),some (.ref t),some (.int m),some (.int x),some .non,none]/\C=.ref (ZnW mg k)/\Zg H H1,?_,?_⟩
 ·have ok:∀(k:Nat) H1,Zg H H1->Zft way T' m x=none->way≠1->Q (.int k) H1:=λk H1 s1 e n=>k1 _ H1 s1 (by rw[e];show if way=1 then _ else _;rw[Yb n];exact⟨k,rfl⟩)
  walk_at "rd"
  refine ZE (λz=>?_) λz=>ZE (λz1=>?_) λz1=>ZE (λz2=>?_) λz2=>?_
  ·have w0:way=0:=by omega
   subst w0
   exact⟨t,T',m,rfl,hO.g (by decide),hlT,hTb,λg f k H1 s1=>ok k H1 s1 (Zn0 (.inr g) (.inr f) (.inl (by decide)) (.inl (by decide))) (by decide),λg H1 s1=>⟨3,by decide,due3 (by decide) g,rfl,s1⟩,λg f H1 s1=>⟨2,by decide,due2 (.inr g) (by decide) f,rfl,s1⟩⟩
  ·have w1:way=1:=by omega
   subst w1
   exact⟨t,T',m,x,rfl,hO.g (by decide),hlT,hTb,λg f h u r H1 zu s1 hr2 hu=>k1 _ H1 s1 (by rw[Zn0 (.inr g) (.inr f) (.inr h) (.inl (by decide))];exact⟨u,r,rfl,hr2,hu⟩),λg H1 s1=>⟨3,by decide,due3 (by decide) g,rfl,s1⟩,λg f H1 s1=>⟨2,by decide,due2 (.inr g) (by decide) f,rfl,s1⟩,λg f h H1 s1=>⟨6,by decide,due6 g f h,rfl,s1⟩⟩
  ·have w2:way=2:=by omega
   subst w2
   exact⟨t,T',m,rfl,hO.q,hlT,hTb,λf h k H1 s1=>ok k H1 s1 (Zn0 (.inl rfl) (.inr f) (.inl (by decide)) (.inr h)) (by decide),λf H1 s1=>⟨2,by decide,due2 (.inl rfl) (by decide) f,rfl,s1⟩,λf h H1 s1=>⟨6,by decide,due6r f h,rfl,s1⟩⟩
  ·have w3:way=3:=by omega
   subst w3
   exact⟨t,T',rfl,(hO.g (by decide)).sq,hlT,λg k H1 s1=>ok k H1 s1 (Zn0 (.inr g) (.inl (by decide)) (.inl (by decide)) (.inl (by decide))) (by decide),λg H1 s1=>⟨3,by decide,due3 (by decide) g,rfl,s1⟩⟩
 ·rintro σ1 C H1 ⟨k,hk,hd,rfl,rfl,s1⟩
  rcases hk with rfl|rfl|rfl
  ·refine⟨_,rfl,T.up_TooMany,λe he=>?_⟩
   walk_at "rd"
   exact k1 (.ref e) _ (s1.ZX he) (by rw[hd];exact⟨e,rfl,Zc⟩)
  ·refine⟨_,rfl,T.up_NoTree,λe he=>?_⟩
   walk_at "rd"
   exact k1 (.ref e) _ (s1.ZX he) (by rw[hd];exact⟨e,rfl,Zc⟩)
  ·refine⟨_,rfl,T.up_NoNumber,λe he=>?_⟩
   walk_at "rd"
   exact k1 (.ref e) _ (s1.ZX he) (by rw[hd];exact⟨e,rfl,Zc⟩)
theorem Zlx {f:Addr}{fd:FuncData} (F:Fun K "_law_due" "_law_due" ZbB f fd) (Zex:Callee P w K mg base "_law_many" 15 ["tree","m"] (sp__law_many K mg)) (Zcr:Callee P w K mg base "_law_is_tree" 3 ["tree"] (ZbX K mg)) (T:Txt K mg):FnOk P w K mg base (CXE P w) 16 f fd ["way","one","m","number"] (Zeq K mg):=by
 refine F.okX Zlp (λvs H Q E h=>?_) (λcdv A outer s H vs Q E hr h=>?_)
 ·obtain⟨way,t,T,m,x,rfl,_⟩:=h;rfl
 obtain⟨way,t,T',m,x,rfl,hway,hO,hlT,k1⟩:=h
 refine⟨_,(Zd (ZK (PW.pt (ZbT (Zn ZoP (pv 0) Ze (Zs _)) (Za2 (Zaq (Zbi (Zk Zcr (hr.mono (by decide)) rfl Zy (Za (pv 1) Zb))))))) (Zf (Zu Ze)) Zw)
   (Zd (ZK (PW.pt (ZbT (Zn Zcj (pv 0) Ze (Zs _)) (Za2 (PW.pt (Zha (Zn Zdf (Zi (Zt (K:=K) rfl) rfl T.b_len Yt (Za (pv 1) Zb)) Ze (Zs _)) (Zd8 (Zaq (Zdg Zec Zec Ze (pv 2) Ze)))))))) (Zf (Zu Ze)) Zw)
   (Zd (ZK (PW.pt (ZbT (Zn ZaZ (pv 0) Ze (Zs _)) (Za2 (Zaq (Zdg Zec Zcj Ze (pv 3) (Zk Zex (hr.mono (by decide)) rfl Zy (Za (pv 1) (Za (pv 2) Zb)))))))) (Zf (Zu Ze)) Zw)
   (Zd (ZK (PW.pt (ZbT (Zn ZaZ (pv 0) Ze (Zs _)) (Za2 (Zaq (Zbi (Zi (Zie (K:=K) rfl rfl) rfl T.b_all Zma (Za (Zbn ["some","m"] [none,some 2] rfl rfl rfl (Zmb (K:=K) rfl (pv 1)) (λ_ _ _ _ _=>(Zv (i:=0) (show(["some","m"]:List Str).Nodup from by decide +kernel) rfl (Or.inl rfl))) (λ_ _ _ _ _=>Za0) (λ_ _ _ _ _=>(ZkU Zec Zcj Ze (pv 0) (pv 1))) ZP) Zb))))))) (Zf (Zu Ze)) Zw)
   (Zf (Zu ZcT)))))),?_⟩
 have eL:(T'.map V.int).length=T'.length:=Yh ..
 refine ZQ (fun σ Hx=>σ=[some (.int way),some (.ref t),some (.int m),some (.int x)]/\(way=2\/ZT T')/\Zg H Hx) (λR hR=>?_) ?_
 ·walk_at "rd"
  refine ZE (λz=>?_) λz=>hR _ _ ⟨rfl,.inl (by omega),Zg.refl H⟩
  have n2:way≠2:=λy=>z (by rw[y];rfl)
  refine⟨t,T',rfl,(hO.g n2).sq,by omega,λg H1 s1=>⟨true,rfl,ZE (λy=>nomatch y) λ_=>hR _ _ ⟨rfl,.inr g,s1⟩⟩,λg H1 s1=>⟨false,rfl,ZE (λ_=>?_) λy=>absurd rfl y⟩⟩
  have:=k1 H1 s1
  rw[due3 n2 g]at this
  exact this
 rintro σ H1 ⟨rfl,hg,s1⟩
 refine ZQ (fun σ Hx=>σ=[some (.int way),some (.ref t),some (.int m),some (.int x)]/\(¬ way<3\/ZaV T'.length m)/\Zg H Hx) (λR hR=>?_) ?_
 ·have no:way<3->¬ ZaV T'.length m->Q (.int 2) H1:=λh f=>by
   have:=k1 H1 s1
   rw[due2 hg h f]at this
   exact this
  walk_at "rd"
  refine ZE (λz=>⟨_,(hO.same s1).q,?_⟩) λz=>hR _ _ ⟨rfl,.inl (by omega),s1⟩
  rw[eL]
  exact ZE (λz1=>no (by omega) λf=>by have:=f.1;omega) λz1=>ZE (λz2=>ZE (λz3=>no (by omega) λf=>by have:=f.2.2;omega) λz3=>hR _ _ ⟨rfl,.inr ⟨by omega,z2,by omega⟩,s1⟩) λz2=>no (by omega) λf=>by have:=f.2.1;omega
 clear s1 H1
 rintro σ H1 ⟨rfl,hf,s1⟩
 refine ZQ (fun σ Hx=>σ=[some (.int way),some (.ref t),some (.int m),some (.int x)]/\(way≠1\/(0<=x/\x<(Zfw T' m.toNat:Nat)))/\Zg H Hx) (λR hR=>?_) ?_
 ·walk_at "rd"
  refine ZE (λz=>?_) λz=>hR _ _ ⟨rfl,.inl (by omega),s1⟩
  have w1:way=1:=by omega
  subst w1
  have g:ZT T':=hg.resolve_left (by decide)
  have f:ZaV T'.length m:=hf.resolve_left (by decide)
  have no:∀H2,Zg H H2->¬ (0<=x/\x<(Zfw T' m.toNat:Nat))->Q (.int 6) H2:=λH2 s2 h=>by
   have:=k1 H2 s2
   rw[due6 g f h]at this
   exact this
  obtain⟨_,ns,hT⟩:=id g
  obtain⟨f1,f2,f3⟩:=id f
  have em:((m.toNat:Nat):Int)=m:=by omega
  refine ZE (λz1=>⟨t,T',m.toNat,cF T' m.toNat T'.length,by rw[em],((hO.same s1).g (by decide)).good g,g,f1,by omega,cF_ways hT _,λH2 s2=>⟨_,rfl,ZE (λz2=>no H2 (s1.trans s2) λy=>z2 y.2) λz2=>hR _ _ ⟨rfl,.inr ⟨z1,by have:¬ ¬ x<((topC T' (cF T' m.toNat T'.length):Nat):Int):=z2;exact Classical.not_not.mp this⟩,s1.trans s2⟩⟩⟩) λz1=>no H1 s1 λy=>z1 y.1
 clear s1 H1
 rintro σ H1 ⟨rfl,hx,s1⟩
 walk_at "rd"
 refine ZE (λz=>?_) λz=>?_
 ·have w2:way=2:=by omega
  subst w2
  have f:ZaV T'.length m:=hf.resolve_left (by decide)
  refine walkC (hO.same s1).q (Zg.refl H1) λJ hgo hstop hy=>?_
  rw[eL]at hgo hstop
  refine comp_map (n:=T'.length) (λj=>V.bl (decide (0<=nth T' j/\nth T' j<m))) (Yu hlT (by decide)) (λj Hz s hj=>hgo j Hz s hj) (λHz s=>hstop Hz s) ?_ ?_
  ·rintro j x Hz Hw hj s hx
   obtain⟨rfl,ex⟩:=hy j Hz x Hw s hx
   rw[nthV hj]at ex
   cases ex
   walk_at "rd"
   exact ZE (λz=>CW.next hj (by congr 1;rw[decide_eq_decide];exact⟨λy=>⟨z,y⟩,λy=>y.2⟩) s) λz=>CW.next hj (by congr 1;exact(YJ λy=>z y.1).symm) s
  ·intro l H2 s2 zl
   have hk:=λd=>k1 _ (s1.trans (s2.ZX (o:=.lst d) zl))
   refine⟨l,rfl,(List.range T'.length).map (λj=>decide (0<=nth T' j/\nth T' j<m)),SqL.of (by rw[Zc,Y1];rfl),ZE (λz=>?_) λz=>?_⟩
   ·have h:=hk ((List.range T'.length).map λj=>V.bl (decide (0<=nth T' j/\nth T' j<m)))
    rw[due6r f (λy=>by
     rw[List.all_eq_false]at z
     obtain⟨b,hb,hb2⟩:=z
     obtain⟨j,hj,rfl⟩:=YH.mp hb
     exact hb2 (YL (y _ (nth_mem (Yz.mp hj)))))]at h
    exact h
   ·have h:=hk ((List.range T'.length).map λj=>V.bl (decide (0<=nth T' j/\nth T' j<m)))
    rw[Zn0 (.inl rfl) (.inr f) (.inl (by decide)) (.inr λy hyv=>by
     obtain⟨j,hj,rfl⟩:=Y4 hyv
     have z':((List.range T'.length).map (λj=>decide (0<=nth T' j/\nth T' j<m))).all id=true:=by
      cases h:((List.range T'.length).map (λj=>decide (0<=nth T' j/\nth T' j<m))).all id with
      |true=>rfl
      |false=>exact absurd h z
     have:=List.all_eq_true.mp z' _ (YH.mpr ⟨j,Yz.mpr hj,rfl⟩)
     have h2:=Ja this
     have e:nth T' j=T'[j]:=by simp[nth,Yr,hj]
     rw[<-e];exact h2)]at h
    exact h
 ·have h:=k1 H1 s1
  rw[Zn0 hg hf hx (.inl (by omega))]at h
  exact h
theorem ok__law_right {f:Addr}{fd:FuncData} (F:Fun K "_law_right" "_law_right" s__law_right f fd) (ZaT:Callee P w K mg base "_law_whole" 1 ["thing"] (sp__law_whole K mg)) (Zcs:Callee P w K mg base "_law_numbers" 2 ["thing"] (ZbY K mg)) (ZdI:Callee P w K mg base "_law_alone" 1 ["e","at"] (ZcZ K mg)) (ZdJ:Callee P w K mg base "_law_heard" 45 ["way","one","m","number"] (Zc0 K mg)) (ZfM:Callee P w K mg base "_law_due" 16 ["way","one","m","number"] (Zeq K mg)) (T:Txt K mg):FnOk P w K mg base (CXE P w) 46 f fd ["way","one","m","number"] (sp__law_right K mg):=by
 refine F.okX sc__law_right (λvs H Q E h=>?_) (λcdv A outer s H vs Q E hr h=>?_)
 ·obtain⟨way,t,T,m,x,rfl,_⟩:=h;rfl
 obtain⟨way,t,T',m,x,rfl,hway,hO,hlT,hTb,k1⟩:=h
 refine⟨_,(Zd (Zm (i:=4) sc__law_right.nd rfl (Or.inl rfl) (Zk ZfM (hr.mono (by decide)) rfl Zy (Za (pv 0) (Za (pv 1) (Za (pv 2) (Za (pv 3) Zb))))))
   (Zd (Zm (i:=5) sc__law_right.nd rfl (Or.inl rfl) (Zk ZdJ (hr.mono (by decide)) rfl Zy (Za (pv 0) (Za (pv 1) (Za (pv 2) (Za (pv 3) Zb))))))
   (Zd (ZK (Zn Zq4 (pv 4) ZcT (Zs _)) (Zf (Zu (Zk ZdI (hr.mono (by decide)) rfl Zy (Za (pv 5) (Za (pv 4) Zb))))) Zw)
   (Zd (ZK (Zn ZaZ (pv 0) Ze (Zs _)) (Zf (Zu (Zk Zcs (hr.mono (by decide)) rfl Zy (Za (pv 5) Zb)))) Zw)
   (Zf (Zu (ZgG (Zk ZaT (hr.mono (by decide)) rfl Zy (Za (pv 5) Zb)) (ZgF (ZcG Zju (pv 5) Ze (Zs _)))))))))),?_⟩
 walk_at "rd"
 refine⟨way,t,T',m,x,rfl,hway,hO,hlT,λH1 s1=>⟨way,t,T',m,x,rfl,hway,hO.same s1,hlT,Zb6.same hTb s1,λv H2 s2 hv=>?_⟩⟩
 have hk:∀k,Zft way T' m x=some k->k=2\/k=3\/k=6:=λk e=>by
  unfold Zft at e
  split at e
  ·cases e;omega
  ·split at e
   ·cases e;omega
   ·split at e
    ·cases e;omega
    ·split at e
     ·cases e;omega
     ·cases e
 cases hd:Zft way T' m x with
 |some k =>
  rw[hd]at hv
  obtain⟨e,rfl,he⟩:=hv
  exact ZE (λ_=>⟨e,k,hk k hd,rfl,he,λH3 s3=>k1 _ (s1.trans (s2.trans s3))⟩) λz=>absurd (λy=>nomatch y) z
 |none =>
  rw[hd]at hv
  refine ZE (λz=>absurd rfl z) λ_=>?_
  by_cases w1:way=1
  ·have hv':∃(u:Addr) (r:List Nat),v=.ref u/\r.length<=12/\H2 u=some (.tup (ZbR r)):=by
    unfold Zkr at hv
    simpa[w1]using hv
   obtain⟨u,r,rfl,hr2,hu⟩:=hv'
   exact ZE (λ_=>⟨u,Zdo r,rfl,by rw[<-ZiD];exact hu,by simp[Zdo];omega,λH3 s3=>k1 _ (s1.trans (s2.trans s3))⟩) λz=>absurd (by rw[w1];rfl) z
  ·have hv':∃k:Nat,v=.int k:=by
    unfold Zkr at hv
    simpa[w1]using hv
   obtain⟨k,rfl⟩:=hv'
   refine ZE (λz=>absurd (by omega) w1) λ_=>⟨_,rfl,true,rfl,ZE (λ_=>⟨_,rfl,?_⟩) λz=>absurd rfl z⟩
   rw[YL (by omega)]
   exact k1 _ (s1.trans s2)
theorem Zjj {f:Addr}{fd:FuncData} (F:Fun K "_law_alone" "_law_alone" ZaQ f fd) (T:Txt K mg):FnOk P w K mg base (CXE P w) 1 f fd ["e","at"] (ZcZ K mg):=by
 refine F.okX ZbF (λvs H Q E h=>?_) (λcdv A outer s H vs Q E hr h=>?_)
 ·obtain⟨e,k,_,rfl,_⟩:=h;rfl
 obtain⟨e,k,hk,rfl,he,k1⟩:=h
 rcases hk with rfl|rfl|rfl
 ·rw[clsN2]at he
  refine⟨_,(Zd (Zm (i:=2) ZbF.nd rfl (Or.inl rfl) (ZO (Za (Zi (Zo (K:=K) rfl) rfl T.b_isinstance Zj (Za (pv 0) (Za (Zz (v:=.ref (clsAt mg "Unlike")) rfl T.c_Unlike rfl) Zb))) (Za (Zi (Zo (K:=K) rfl) rfl T.b_isinstance Zj (Za (pv 0) (Za (Zz (v:=.ref (clsAt mg "Empty")) rfl T.c_Empty rfl) Zb))) (Za (Zi (Zo (K:=K) rfl) rfl T.b_isinstance Zj (Za (pv 0) (Za (Zz (v:=.ref (clsAt mg "TooMany")) rfl T.c_TooMany rfl) Zb))) (Za (Zi (Zo (K:=K) rfl) rfl T.b_isinstance Zj (Za (pv 0) (Za (Zz (v:=.ref (clsAt mg "NoTree")) rfl T.c_NoTree rfl) Zb))) (Za (Zi (Zo (K:=K) rfl) rfl T.b_isinstance Zj (Za (pv 0) (Za (Zz (v:=.ref (clsAt mg "NoTelling")) rfl T.c_NoTelling rfl) Zb))) (Za (Zi (Zo (K:=K) rfl) rfl T.b_isinstance Zj (Za (pv 0) (Za (Zz (v:=.ref (clsAt mg "NoPlace")) rfl T.c_NoPlace rfl) Zb))) (Za (Zi (Zo (K:=K) rfl) rfl T.b_isinstance Zj (Za (pv 0) (Za (Zz (v:=.ref (clsAt mg "NoNumber")) rfl T.c_NoNumber rfl) Zb))) (Za (Zi (Zo (K:=K) rfl) rfl T.b_isinstance Zj (Za (pv 0) (Za (Zz (v:=.ref (clsAt mg "NoPast")) rfl T.c_NoPast rfl) Zb))) (Za (Zi (Zo (K:=K) rfl) rfl T.b_isinstance Zj (Za (pv 0) (Za (Zz (v:=.ref (clsAt mg "NoText")) rfl T.c_NoText rfl) Zb))) (Za (Zi (Zo (K:=K) rfl) rfl T.b_isinstance Zj (Za (pv 0) (Za (Zz (v:=.ref (clsAt mg "NoLine")) rfl T.c_NoLine rfl) Zb))) Zb))))))))))))
   (Zd (ZK (PW.pt (Zha (Zaq (Zbi (Zi (Zo (K:=K) rfl) rfl T.b_isinstance Zj (Za (pv 0) (Za (Zz (v:=.ref (clsAt mg "DipError")) rfl T.c_DipError rfl) Zb))))) (Zd8 (Zaq (Zbi (Zi (Zo (K:=K) rfl) rfl T.b_isinstance Zj (Za (pv 0) (Za (Zdr (v:=.ty "ValueError") rfl T.b_ValueError ZcX rfl) Zb)))))))) (Zf (Zu ZcF)) Zw)
   (Zf (Zu (ZgG (ZcG ZaZ (Zcl PySem.F.plainAttrs_list PySem.F.slot_list_count PySem.F.type_list_count Zic (pv 2) (Za ZcF Zb)) Ze (Zs _)) (ZgF (ZF ZA (pv 2) (pv 1) (λ_ _=>rfl)))))))),?_⟩
  walk_at "rd"
  (
 have Z:=T.ex_TooMany
 refine⟨_,tyE he Z T.is_TooMany_Unlike,_,tyE he Z T.is_TooMany_Empty,_,tyE he Z T.is_TooMany_TooMany,_,tyE he Z T.is_TooMany_NoTree,_,tyE he Z T.is_TooMany_NoTelling,
  _,tyE he Z T.is_TooMany_NoPlace,_,tyE he Z T.is_TooMany_NoNumber,_,tyE he Z T.is_TooMany_NoPast,_,tyE he Z T.is_TooMany_NoText,_,tyE he Z T.is_TooMany_NoLine,by decide,λp hp=>?_⟩
 have he':∀o,(upd H p o) e=some (Zjb e (clsAt mg "TooMany")):=λo=>by rw[Zh (Zr he hp)];exact he
 refine⟨_,tyE (he' _) Z T.is_TooMany_DipError,?_⟩
 walk_at "rd"
 refine⟨_,tyE (he' _) Z T.is_TooMany_V,?_⟩
 walk_at "rd"
 refine⟨Z8 Zc,_,Zc,⟨_,rfl⟩,by simp,?_⟩
 refine ZE (λ_=>?_) (λz=>absurd rfl z)
 exact⟨_,SqL.of Zc,_,rfl,k1 _ ((Zg.refl H).upd hp)⟩
  )
 ·rw[clsN3]at he
  refine⟨_,(Zd (Zm (i:=2) ZbF.nd rfl (Or.inl rfl) (ZO (Za (Zi (Zo (K:=K) rfl) rfl T.b_isinstance Zj (Za (pv 0) (Za (Zz (v:=.ref (clsAt mg "Unlike")) rfl T.c_Unlike rfl) Zb))) (Za (Zi (Zo (K:=K) rfl) rfl T.b_isinstance Zj (Za (pv 0) (Za (Zz (v:=.ref (clsAt mg "Empty")) rfl T.c_Empty rfl) Zb))) (Za (Zi (Zo (K:=K) rfl) rfl T.b_isinstance Zj (Za (pv 0) (Za (Zz (v:=.ref (clsAt mg "TooMany")) rfl T.c_TooMany rfl) Zb))) (Za (Zi (Zo (K:=K) rfl) rfl T.b_isinstance Zj (Za (pv 0) (Za (Zz (v:=.ref (clsAt mg "NoTree")) rfl T.c_NoTree rfl) Zb))) (Za (Zi (Zo (K:=K) rfl) rfl T.b_isinstance Zj (Za (pv 0) (Za (Zz (v:=.ref (clsAt mg "NoTelling")) rfl T.c_NoTelling rfl) Zb))) (Za (Zi (Zo (K:=K) rfl) rfl T.b_isinstance Zj (Za (pv 0) (Za (Zz (v:=.ref (clsAt mg "NoPlace")) rfl T.c_NoPlace rfl) Zb))) (Za (Zi (Zo (K:=K) rfl) rfl T.b_isinstance Zj (Za (pv 0) (Za (Zz (v:=.ref (clsAt mg "NoNumber")) rfl T.c_NoNumber rfl) Zb))) (Za (Zi (Zo (K:=K) rfl) rfl T.b_isinstance Zj (Za (pv 0) (Za (Zz (v:=.ref (clsAt mg "NoPast")) rfl T.c_NoPast rfl) Zb))) (Za (Zi (Zo (K:=K) rfl) rfl T.b_isinstance Zj (Za (pv 0) (Za (Zz (v:=.ref (clsAt mg "NoText")) rfl T.c_NoText rfl) Zb))) (Za (Zi (Zo (K:=K) rfl) rfl T.b_isinstance Zj (Za (pv 0) (Za (Zz (v:=.ref (clsAt mg "NoLine")) rfl T.c_NoLine rfl) Zb))) Zb))))))))))))
   (Zd (ZK (PW.pt (Zha (Zaq (Zbi (Zi (Zo (K:=K) rfl) rfl T.b_isinstance Zj (Za (pv 0) (Za (Zz (v:=.ref (clsAt mg "DipError")) rfl T.c_DipError rfl) Zb))))) (Zd8 (Zaq (Zbi (Zi (Zo (K:=K) rfl) rfl T.b_isinstance Zj (Za (pv 0) (Za (Zdr (v:=.ty "ValueError") rfl T.b_ValueError ZcX rfl) Zb)))))))) (Zf (Zu ZcF)) Zw)
   (Zf (Zu (ZgG (ZcG ZaZ (Zcl PySem.F.plainAttrs_list PySem.F.slot_list_count PySem.F.type_list_count Zic (pv 2) (Za ZcF Zb)) Ze (Zs _)) (ZgF (ZF ZA (pv 2) (pv 1) (λ_ _=>rfl)))))))),?_⟩
  walk_at "rd"
  (
 have Z:=T.ex_NoTree
 refine⟨_,tyE he Z T.is_NoTree_Unlike,_,tyE he Z T.is_NoTree_Empty,_,tyE he Z T.is_NoTree_TooMany,_,tyE he Z T.is_NoTree_NoTree,_,tyE he Z T.is_NoTree_NoTelling,
  _,tyE he Z T.is_NoTree_NoPlace,_,tyE he Z T.is_NoTree_NoNumber,_,tyE he Z T.is_NoTree_NoPast,_,tyE he Z T.is_NoTree_NoText,_,tyE he Z T.is_NoTree_NoLine,by decide,λp hp=>?_⟩
 have he':∀o,(upd H p o) e=some (Zjb e (clsAt mg "NoTree")):=λo=>by rw[Zh (Zr he hp)];exact he
 refine⟨_,tyE (he' _) Z T.is_NoTree_DipError,?_⟩
 walk_at "rd"
 refine⟨_,tyE (he' _) Z T.is_NoTree_V,?_⟩
 walk_at "rd"
 refine⟨Z8 Zc,_,Zc,⟨_,rfl⟩,by simp,?_⟩
 refine ZE (λ_=>?_) (λz=>absurd rfl z)
 exact⟨_,SqL.of Zc,_,rfl,k1 _ ((Zg.refl H).upd hp)⟩
  )
 ·rw[clsN6]at he
  refine⟨_,(Zd (Zm (i:=2) ZbF.nd rfl (Or.inl rfl) (ZO (Za (Zi (Zo (K:=K) rfl) rfl T.b_isinstance Zj (Za (pv 0) (Za (Zz (v:=.ref (clsAt mg "Unlike")) rfl T.c_Unlike rfl) Zb))) (Za (Zi (Zo (K:=K) rfl) rfl T.b_isinstance Zj (Za (pv 0) (Za (Zz (v:=.ref (clsAt mg "Empty")) rfl T.c_Empty rfl) Zb))) (Za (Zi (Zo (K:=K) rfl) rfl T.b_isinstance Zj (Za (pv 0) (Za (Zz (v:=.ref (clsAt mg "TooMany")) rfl T.c_TooMany rfl) Zb))) (Za (Zi (Zo (K:=K) rfl) rfl T.b_isinstance Zj (Za (pv 0) (Za (Zz (v:=.ref (clsAt mg "NoTree")) rfl T.c_NoTree rfl) Zb))) (Za (Zi (Zo (K:=K) rfl) rfl T.b_isinstance Zj (Za (pv 0) (Za (Zz (v:=.ref (clsAt mg "NoTelling")) rfl T.c_NoTelling rfl) Zb))) (Za (Zi (Zo (K:=K) rfl) rfl T.b_isinstance Zj (Za (pv 0) (Za (Zz (v:=.ref (clsAt mg "NoPlace")) rfl T.c_NoPlace rfl) Zb))) (Za (Zi (Zo (K:=K) rfl) rfl T.b_isinstance Zj (Za (pv 0) (Za (Zz (v:=.ref (clsAt mg "NoNumber")) rfl T.c_NoNumber rfl) Zb))) (Za (Zi (Zo (K:=K) rfl) rfl T.b_isinstance Zj (Za (pv 0) (Za (Zz (v:=.ref (clsAt mg "NoPast")) rfl T.c_NoPast rfl) Zb))) (Za (Zi (Zo (K:=K) rfl) rfl T.b_isinstance Zj (Za (pv 0) (Za (Zz (v:=.ref (clsAt mg "NoText")) rfl T.c_NoText rfl) Zb))) (Za (Zi (Zo (K:=K) rfl) rfl T.b_isinstance Zj (Za (pv 0) (Za (Zz (v:=.ref (clsAt mg "NoLine")) rfl T.c_NoLine rfl) Zb))) Zb))))))))))))
   (Zd (ZK (PW.pt (Zha (Zaq (Zbi (Zi (Zo (K:=K) rfl) rfl T.b_isinstance Zj (Za (pv 0) (Za (Zz (v:=.ref (clsAt mg "DipError")) rfl T.c_DipError rfl) Zb))))) (Zd8 (Zaq (Zbi (Zi (Zo (K:=K) rfl) rfl T.b_isinstance Zj (Za (pv 0) (Za (Zdr (v:=.ty "ValueError") rfl T.b_ValueError ZcX rfl) Zb)))))))) (Zf (Zu ZcF)) Zw)
   (Zf (Zu (ZgG (ZcG ZaZ (Zcl PySem.F.plainAttrs_list PySem.F.slot_list_count PySem.F.type_list_count Zic (pv 2) (Za ZcF Zb)) Ze (Zs _)) (ZgF (ZF ZA (pv 2) (pv 1) (λ_ _=>rfl)))))))),?_⟩
  walk_at "rd"
  (
 have Z:=T.ex_NoNumber
 refine⟨_,tyE he Z T.is_NoNumber_Unlike,_,tyE he Z T.is_NoNumber_Empty,_,tyE he Z T.is_NoNumber_TooMany,_,tyE he Z T.is_NoNumber_NoTree,_,tyE he Z T.is_NoNumber_NoTelling,
  _,tyE he Z T.is_NoNumber_NoPlace,_,tyE he Z T.is_NoNumber_NoNumber,_,tyE he Z T.is_NoNumber_NoPast,_,tyE he Z T.is_NoNumber_NoText,_,tyE he Z T.is_NoNumber_NoLine,by decide,λp hp=>?_⟩
 have he':∀o,(upd H p o) e=some (Zjb e (clsAt mg "NoNumber")):=λo=>by rw[Zh (Zr he hp)];exact he
 refine⟨_,tyE (he' _) Z T.is_NoNumber_DipError,?_⟩
 walk_at "rd"
 refine⟨_,tyE (he' _) Z T.is_NoNumber_V,?_⟩
 walk_at "rd"
 refine⟨Z8 Zc,_,Zc,⟨_,rfl⟩,by simp,?_⟩
 refine ZE (λ_=>?_) (λz=>absurd rfl z)
 exact⟨_,SqL.of Zc,_,rfl,k1 _ ((Zg.refl H).upd hp)⟩
  )
theorem Zcp.exc {H H':Hp}{t p:Addr}{T:List Int} (h:Zcp H t T) (n:t≠p) (e:Exc p H H'):Zcp H' t T:=h.elim (λ⟨ob,o1,o2⟩=>.inl ⟨ob,o1,e _ _ n o2⟩) λz=>.inr ⟨z.1,e _ _ n z.2⟩
theorem Zcp.updL {H:Hp}{t b:Addr}{T:List Int}{ys zs:List V} (h:Zcp H t T) (hb:H b=some (.lst ys)):Zcp (upd H b (.lst zs)) t T:=by
 rcases h with⟨ob,o1,o2⟩|⟨h1,h2⟩
 ·exact .inl ⟨ob,o1,by rw[Zh (λz=>by rw[z,hb]at o2;cases o2)];exact o2⟩
 ·exact .inr ⟨h1,by rw[Zh (λz=>by rw[z,hb]at h2;cases h2)];exact h2⟩
theorem ok_law {f:Addr}{fd:FuncData} (F:Fun K "law" "law" s_law f fd) (Zey:Callee P w K mg base "_law_deal" 1 ["cell"] (sp__law_deal K mg)) (Zq:Callee P w K mg base "_law_take" 1 ["pot","many"] (sp__law_take K mg)) (ZfN:Callee P w K mg base "_law_row" 3 ["pot","most"] (sp__law_row K mg)) (Zbg:Callee P w K mg base "_law_tree" 1 ["row"] (sp__law_tree K mg)) (Zez:Callee P w K mg base "_law_bent" 2 ["pot","tree"] (ZdE K mg)) (Zbr:Callee P w K mg base "_law_right" 46 ["way","one","m","number"] (sp__law_right K mg)) (T:Txt K mg):FnOk P w K mg base (CXE P w) 47 f fd ["script"] (spLaw K mg):=by
 refine F.okX sc_law (λvs H Q E h=>?_) (λcdv A outer s H vs Q E hr h=>?_)
 ·obtain⟨a,ns,rfl,_⟩:=h;rfl
 obtain⟨sc,ss,rfl,hsc,hss,hTb,k1⟩:=h
 have tb0:Zb6 K mg "from_below" H:=hTb (Zkh K mg "from_below",lamQ "from_below") (by unfold tabsL;simp)
 refine⟨_,(Zd (Zag (ZaC PassesOwn.never rfl (Zds (Zp Zib (Zf6 ZhV (pv 0) ZhT (ZhU Ze)) (ZO (Za Ze Zb)))) (Zv (i:=1) sc_law.nd rfl (Or.inl rfl)) (Zd (Zm (i:=2) sc_law.nd rfl (Or.inr rfl) (Zk Zey (hr.mono (by decide)) rfl Zy (Za (pv 1) Zb)))
   (Zd (Zm (i:=3) sc_law.nd rfl (Or.inl rfl) (Zk Zez (hr.mono (by decide)) rfl Zy (Za (pv 2) (Za (Zk Zbg (hr.mono (by decide)) rfl Zy (Za (Zk ZfN (hr.mono (by decide)) rfl Zy (Za (pv 2) (Za (ZF Zbz (Zck (Za Ze (Za Ze Zb))) (Zk Zq (hr.mono (by decide)) rfl Zy (Za (pv 2) (Za Ze Zb))) (λ_ _=>rfl)) Zb))) Zb)) Zb))))
   (Zd (ZK (Zn ZaZ (Zk Zq (hr.mono (by decide)) rfl Zy (Za (pv 2) (Za Ze Zb))) Ze (Zs _)) (Zf (Zm (i:=3) sc_law.nd rfl (Or.inl rfl) (ZaK (Zjf rfl) rfl T.b_tuple ZbN (Za (Znu rfl T.b_range (Za (Zbw ZaD Ze) (Za Ze Zb))) Zb)))) Zw)
   (Zd (Zm (i:=4) sc_law.nd rfl (Or.inl rfl) (ZF Zbz (Zck (Za (Zp Zbj (Zk Zq (hr.mono (by decide)) rfl Zy (Za (pv 2) (Za Ze Zb))) Ze) (Za (Zp Zby Ze Ze) (Za (Zbw ZaD Ze) Zb)))) (Zp ZaM (Zp Zio (Zk Zq (hr.mono (by decide)) rfl Zy (Za (pv 2) (Za Ze Zb))) Ze) (Zp ZZ Ze (Zk Zq (hr.mono (by decide)) rfl Zy (Za (pv 2) (Za Ze Zb))))) (λ_ _=>rfl)))
   (Zd (Zm (i:=5) sc_law.nd rfl (Or.inl rfl) (Zp Zbj (Zk Zq (hr.mono (by decide)) rfl Zy (Za (pv 2) (Za Ze Zb))) Ze))
   (Zd (Zdi (i:=6) ["place","pot"] [none,some 2] sc_law.nd rfl (Or.inl rfl) rfl rfl rfl (Zaa rfl T.b_range (Za (Zk Zq (hr.mono (by decide)) rfl Zy (Za (pv 2) (Za Ze Zb))) Zb)) (λ_ _ _ _ _=>(Zv (i:=0) (show(["place","pot"]:List Str).Nodup from by decide +kernel) rfl (Or.inl rfl))) (λ_ _ _ _ _=>Za0) (λ_ _ _ _ _=>(Zp Zbj (Zk Zq (hr.mono (by decide)) rfl Zy (Za (pv 1) (Za Ze Zb))) Ze)) ZP)
   (Zd (ZK (PW.pt (ZbT (Zn (Zpb (K:=K) rfl hr) (pv 6) (ZO Zb) (Zs _)) (Za2 (Zn ZaZ (Zk Zq (hr.mono (by decide)) rfl Zy (Za (pv 2) (Za Ze Zb))) Ze (Zs _))))) (Zf (Zbx (ZF Zbz (Zck (Za (Zp Zby Ze Ze) (Za (Zbw ZaD (Zp Zby Ze Ze)) Zb))) (Zk Zq (hr.mono (by decide)) rfl Zy (Za (pv 2) (Za Ze Zb))) (λ_ _=>rfl)) (ZcU (pv 6) Ze set_list (λ_=>rfl)))) Zw)
   (Zd (Zag (ZaC PassesOwn.never rfl (ZlX (Zck (Za Ze (Za Ze (Za Ze Zb))))) (Zv (i:=7) sc_law.nd rfl (Or.inl rfl)) (Zf (ZK (Zaq (Zbi (Zk Zbr (hr.mono (by decide)) rfl Zy (Za (pv 7) (Za (pv 3) (Za (pv 4) (Za (pv 5) Zb))))))) (Zf (Zu ZcF)) Zw))))
   (Zf (ZK (PW.pt (Zha (Zaq (Zbi (Zk Zbr (hr.mono (by decide)) rfl Zy (Za Ze (Za (ZaK (ZgL (K:=K) rfl) rfl T.b_tuple ZbN (Za (pv 6) Zb)) (Za (pv 4) (Za Ze Zb))))))) (Zd8 (Zaq (Zbi (Zk Zbr (hr.mono (by decide)) rfl Zy (Za Ze (Za (pv 6) (Za (pv 4) (Za Ze Zb)))))))))) (Zf (Zu ZcF)) Zw))))))))))))
   (Zf (Zu ZcF))),?_⟩
 walk_at "rd"
 have e8:ZcV (ss.map V.int) none (some 8)++[V.int 0]=(ss.take 8++[0]).map V.int:=by
  have:=Zmg (ss.map V.int) 8
  rw[show((8:Nat):Int)=8 from rfl]at this
  rw[this];simp
 have l8:(ZcV (ss.map V.int) none (some 8)).length<=63:=Yf (Zed _ _ _) (by rw[Yh];omega)
 refine⟨_,hsc,λq1 h1=>⟨by decide,λq2 h2=>⟨_,((Zg.refl _).ZX h2) _ _ Zc,_,Zc,Yf (show _<=100 by simp only[Yq,List.length_nil];omega) (by decide),λq3 h3=>⟨⟨_,SqL.of Zc⟩,?_⟩⟩⟩⟩
 have hl0:(upd (upd (upd H q1 (.lst (ZcV (ss.map V.int) none (some 8)))) q2 (.lst [V.int 0])) q3 (.lst (ZcV (ss.map V.int) none (some 8)++[V.int 0]))) q3=some (.lst ((ss.take 8++[0]).map V.int)):=by rw[Zc,e8]
 have tb1:Zb6 K mg "from_below" (upd (upd (upd H q1 (.lst (ZcV (ss.map V.int) none (some 8)))) q2 (.lst [V.int 0])) q3 (.lst (ZcV (ss.map V.int) none (some 8)++[V.int 0]))):=Zb6.same tb0 ((((Zg.refl H).upd h1).ZX h2).ZX h3)
 generalize upd (upd (upd H q1 (.lst (ZcV (ss.map V.int) none (some 8)))) q2 (.lst [V.int 0])) q3 (.lst (ZcV (ss.map V.int) none (some 8)++[V.int 0]))=H0 at hl0 tb1⊢
 refine ZkS (K:=K) (a:=q3) (xs:=(ss.take 8++[0]).map V.int) (λi σ H'=>∃v1 v2 v3 v4 v5 v6 v7,σ=[some (.ref sc),v1,v2,v3,v4,v5,v6,v7]/\Zg H0 H') ⟨_,_,_,_,_,_,_,rfl,Zg.refl H0⟩ (λi σ H' _ ⟨_,_,_,_,_,_,_,_,s⟩=>SqL.of (s _ _ hl0)) ?_ ?_
 ·rintro i x σ H' hi ⟨v1,v2,v3,v4,v5,v6,v7,rfl,hs⟩
  obtain⟨cell,rfl⟩:∃c:Int,x=V.int c:=by
   have:=List.mem_of_getElem? hi
   obtain⟨c,_,rfl⟩:=YH.mp this
   exact⟨c,rfl⟩
  refine ZQ (fun σ Hx=>∃p,σ=[some (.ref sc),some (.int cell),some (.ref p),v3,v4,v5,v6,v7]/\H0 p=none/\ZL Hx p/\Zg H0 Hx) (λR hR=>?_) ?_
  ·walk_at "rd"
   exact⟨cell,rfl,λp H1 hp s1 P1=>hR _ _ ⟨p,rfl,hs.free hp,P1,hs.trans s1⟩⟩
  rintro σ H1 ⟨p,rfl,zp,P1,s1⟩
  refine ZQ (fun σ Hx=>∃(t:Addr) (T:List Int),σ=[some (.ref sc),some (.int cell),some (.ref p),some (.ref t),v4,v5,v6,v7]/\T.length<=900/\Zcp Hx t T/\t≠p/\ZL Hx p/\Zg H0 Hx) (λR hR=>?_) ?_
  ·walk_at "rd"
   refine⟨by decide,λq hq=>?_⟩
   have g:=(Zg.refl H1).upd (o:=.tup [V.int 12,V.int 40]) hq
   refine⟨p,_,rfl,by decide,by decide,P1.same g,λd H2 d0 d1 P2 e2=>?_⟩
   obtain⟨v,hv,y,rfl,y0,y1⟩:=Zfk (xs:=[V.int 12,V.int 40]) (i:=d) (λv=>∃y:Int,v=V.int y/\0<y/\y<=40) d0 d1 (by
    intro x hx
    simp at hx
    rcases hx with rfl|rfl<;>exact⟨_,rfl,by decide,by decide⟩)
   have s2:=(s1.trans g).exc zp e2
   exact⟨_,d,rfl,SqT.of (e2 _ _ (P1.ne hq) Zc),_,hv,p,y,rfl,by omega,by omega,P2,λr ns H3 zr hl hr1 P3 e3=>⟨r,ns,rfl,.inl (SqL.of hr1),by omega,λt es H4 zt hT s4 ht=>⟨p,t,es,rfl,P3.same s4,ht.sq,by have:=hT.1;omega,λt' T' H5 ne hF hl5 P5 e5=>hR _ _ ⟨t',T',rfl,by have:=hT.1;omega,.inl hF,ne,P5,((s2.exc zp e3).trans s4).exc zp e5⟩⟩⟩⟩
  clear s1 P1 H1
  rintro σ H1 ⟨t,T',rfl,hl,ht,ntp,P1,s1⟩
  refine ZQ (fun σ Hx=>∃(t:Addr) (T:List Int),σ=[some (.ref sc),some (.int cell),some (.ref p),some (.ref t),v4,v5,v6,v7]/\T.length<=900/\Zcp Hx t T/\t≠p/\ZL Hx p/\Zg H0 Hx) (λR hR=>?_) ?_
  ·walk_at "rd"
   refine⟨p,_,rfl,by decide,by decide,P1,λd H2 d0 d1 P2 e2=>⟨rfl,ZE (λ_=>⟨by decide,by decide,by decide,by decide,λq hq=>⟨-1,40,Zc,by decide,by decide,by decide,by decide,by decide,λl hl2=>?_⟩⟩) λ_=>hR _ _ ⟨t,T',rfl,hl,ht.exc ntp e2,ntp,P2,s1.exc zp e2⟩⟩⟩
   have g:=(((Zg.refl H2).upd (o:=.rng (-1) 40) hq).ZX (o:=.tup ((List.range ((40:Int) - -1).toNat).map λ(k:Nat)=>V.int (-1+(k:Int)))) hl2)
   refine hR _ _ ⟨l,(List.range 41).map (λ(k:Nat)=>(-1:Int)+(k:Int)),rfl,by simp,.inr ⟨λz=>?_,?_⟩,?_,P2.same g,(s1.exc zp e2).trans g⟩
   ·have:=z.1;simp at this
   ·rw[Zc,Y1];rfl
   ·exact P2.ne (((Zg.refl H2).upd hq).free hl2)
  clear s1 P1 ht ntp hl H1 T' t
  rintro σ H1 ⟨t,T',rfl,hl,ht,ntp,P1,s1⟩
  refine ZQ (fun σ Hx=>∃m:Int,σ=[some (.ref sc),some (.int cell),some (.ref p),some (.ref t),some (.int m),v5,v6,v7]/\Zcp Hx t T'/\ZL Hx p/\Zg H0 Hx) (λR hR=>?_) ?_
  ·walk_at "rd"
   refine⟨p,_,rfl,by decide,by decide,P1,λd H2 d0 d1 P2 e2=>⟨_,rfl,cp59,by decide,λq hq=>?_⟩⟩
   have g:=(Zg.refl H2).upd (o:=.tup [V.int (d-2),V.int (10 ^ Int.toNat 59),V.int (-1)]) hq
   have hqv:=Zc (H:=H2) (a:=q) (o:=.tup [V.int (d-2),V.int (10 ^ Int.toNat 59),V.int (-1)])
   refine⟨p,_,rfl,by decide,by decide,P2.same g,λd' H3 f0 f1 P3 e3=>⟨_,rfl,⟨by decide,by decide⟩,p,_,rfl,by decide,by decide,P3,λd'' H4 g0 g1 P4 e4=>⟨_,rfl,mul_r (by omega) (by omega),_,SqT.of (e4 _ _ (P2.ne hq) (e3 _ _ (P2.ne hq) hqv)),?_⟩⟩⟩
   have hd6:d' / 6=0\/d' / 6=1:=by omega
   have hb:0<=d' / 6*(1+d'')/\d' / 6*(1+d'')<3:=by
    rcases hd6 with e|e<;>rw[e]<;>omega
   obtain⟨v,hv,y,rfl⟩:=Zfk (xs:=[V.int (d-2),V.int (10 ^ Int.toNat 59),V.int (-1)]) (i:=d' / 6*(1+d'')) (λv=>∃y:Int,v=V.int y) hb.1 hb.2 (by
    intro x hx
    simp only[Yl,List.not_mem_nil,or_false]at hx
    rcases hx with rfl|rfl|rfl<;>exact⟨_,rfl⟩)
   exact⟨_,hv,hR _ _ ⟨y,rfl,(((ht.exc ntp e2).same g).exc ntp e3).exc ntp e4,P4,(((s1.exc zp e2).trans g).exc zp e3).exc zp e4⟩⟩
  clear s1 P1 ht H1
  rintro σ H1 ⟨m,rfl,ht,P1,s1⟩
  refine ZQ (fun σ Hx=>∃y:Int,σ=[some (.ref sc),some (.int cell),some (.ref p),some (.ref t),some (.int m),some (.int y),v6,v7]/\Zcp Hx t T'/\ZL Hx p/\Zg H0 Hx) (λR hR=>?_) ?_
  ·walk_at "rd"
   exact⟨p,_,rfl,by decide,by decide,P1,λd H2 d0 d1 P2 e2=>⟨_,rfl,hR _ _ ⟨_,rfl,ht.exc ntp e2,P2,s1.exc zp e2⟩⟩⟩
  clear s1 P1 ht H1
  rintro σ H1 ⟨y,rfl,ht,P1,s1⟩
  refine ZQ (fun σ Hx=>∃(r:Addr) (ns:List Int),σ=[some (.ref sc),some (.int cell),some (.ref p),some (.ref t),some (.int m),some (.int y),some (.ref r),v7]/\ns.length<=14/\H0 r=none/\r≠p/\Hx r=some (.lst (ns.map V.int))/\Zcp Hx t T'/\ZL Hx p/\Zg H0 Hx) (λR hR=>?_) ?_
  ·walk_at "rd"
   refine⟨p,_,rfl,by decide,by decide,P1,λd H2 d0 d1 P2 e2=>⟨_,rfl,by omega,by omega,?_⟩⟩
   have s2:=s1.exc zp e2
   have ht2:=ht.exc ntp e2
   refine Zif (n:=d.toNat) (λk acc Hz=>∃ns:List Int,acc=ns.map V.int/\ns.length=k/\ZL Hz p/\Exc p H2 Hz) (Yu (show _<=1000 by omega) (by decide)) ⟨[],rfl,rfl,P2,λ_ _ _ h=>h⟩ (λk acc Hz _ hk=>hk) (λacc Hz _=>Yd _) ?_ ?_
   ·rintro k x acc Hz Hw hk hla ⟨ns,rfl,hnl,Pz,ez⟩ ⟨rfl,rfl⟩
    walk_at "rd"
    exact⟨p,_,rfl,by decide,by decide,Pz,λd2 H3 f0 f1 P3 e3=>⟨_,rfl,CA.take hk hla ⟨ns++[d2-1],by simp,by simp[hnl],P3,λb u nn h=>e3 b u nn (ez b u nn h)⟩⟩⟩
   ·rintro c acc Hz ⟨ns,rfl,hnl,Pz,ez⟩ _ hc
    have g:=(Zg.refl Hz).upd (o:=.lst (ns.map V.int)) hc
    have sz:Zg H0 Hz:=s2.exc zp ez
    exact hR _ _ ⟨c,ns,rfl,by omega,sz.free hc,Pz.ne hc,Zc,(ht2.exc ntp ez).same g,Pz.same g,sz.trans g⟩
  clear s1 P1 ht H1
  rintro σ H1 ⟨r,ns,rfl,hnl,zr,nrp,hr1,ht,P1,s1⟩
  refine ZQ (fun σ Hx=>∃(ns:List Int),σ=[some (.ref sc),some (.int cell),some (.ref p),some (.ref t),some (.int m),some (.int y),some (.ref r),v7]/\ns.length<=14/\Hx r=some (.lst (ns.map V.int))/\Zcp Hx t T'/\Zg H0 Hx) (λR hR=>?_) ?_
  ·walk_at "rd"
   refine⟨Yn _,λq hq=>?_⟩
   have g:=(Zg.refl H1).upd (o:=.lst []) hq
   have e:=ZmQ (n:=2) (K:=K) (H:=upd H1 q (.lst [])) Zgb (V.ref r) (V.ref q) ns [] (Zgc (SqL.of (g _ _ hr1))) (Zgc (ns:=[]) (SqL.of Zc))
   refine⟨_,e,ZE (λz=>?_) λ_=>hR _ _ ⟨ns,rfl,hnl,g _ _ hr1,ht.same g,s1.trans g⟩⟩
   have hne:ns≠[]:=of_decide_eq_false z
   refine⟨p,_,rfl,by decide,by decide,P1.same g,λd H2 d0 d1 P2 e2=>⟨rfl,ZE (λ_=>⟨cp59,cp59,by decide,λq2 hq2=>?_⟩) λ_=>hR _ _ ⟨ns,rfl,hnl,e2 _ _ nrp (g _ _ hr1),(ht.same g).exc ntp e2,(s1.trans g).exc zp e2⟩⟩⟩
   have g2:=(Zg.refl H2).upd (o:=.tup [V.int (10 ^ Int.toNat 59),V.int (-10 ^ Int.toNat 59)]) hq2
   have hq2v:=Zc (H:=H2) (a:=q2) (o:=.tup [V.int (10 ^ Int.toNat 59),V.int (-10 ^ Int.toNat 59)])
   refine⟨p,_,rfl,by decide,by decide,P2.same g2,λd' H3 f0 f1 P3 e3=>?_⟩
   obtain⟨v,hv,y2,rfl⟩:=Zfk (xs:=[V.int (10 ^ Int.toNat 59),V.int (-10 ^ Int.toNat 59)]) (i:=d') (λv=>∃y:Int,v=V.int y) f0 f1 (by
    intro x hx
    simp only[Yl,List.not_mem_nil,or_false]at hx
    rcases hx with rfl|rfl<;>exact⟨_,rfl⟩)
   have hr3:=e3 _ _ nrp (g2 _ _ (e2 _ _ nrp (g _ _ hr1)))
   have ht3:=(((ht.same g).exc ntp e2).same g2).exc ntp e3
   have s3:=(((s1.trans g).exc zp e2).trans g2).exc zp e3
   refine⟨_,d',rfl,SqT.of (e3 _ _ (P2.ne hq2) hq2v),_,hv,_,hr3,0,?_,hR _ _ ⟨ns.set 0 y2,rfl,by simpa using hnl,by rw[Zc,List.map_set],ht3.updL hr3,s3.upd zr⟩⟩
   have:0<ns.length:=List.length_pos_iff.mpr hne
   exact Zdz (j:=0) (by rw[Yh];omega)
  clear s1 P1 ht hr1 hnl H1 ns
  rintro σ H1 ⟨ns,rfl,hnl,hr1,ht,s1⟩
  refine ZQ (fun σ Hx=>∃v7,σ=[some (.ref sc),some (.int cell),some (.ref p),some (.ref t),some (.int m),some (.int y),some (.ref r),v7]/\Zg H1 Hx) (λR hR=>?_) ?_
  ·walk_at "rd"
   refine⟨by decide,λq hq=>⟨⟨_,SqT.of Zc⟩,?_⟩⟩
   have g:=(Zg.refl H1).upd (o:=.tup [V.int 0,V.int 1,V.int 3]) hq
   have hqv:=Zc (H:=H1) (a:=q) (o:=.tup [V.int 0,V.int 1,V.int 3])
   generalize upd H1 q (.tup [V.int 0,V.int 1,V.int 3])=H2 at g hqv⊢
   refine Zek (n:=3) (λj σ Hx=>∃v7,σ=[some (.ref sc),some (.int cell),some (.ref p),some (.ref t),some (.int m),some (.int y),some (.ref r),v7]/\Zg H2 Hx) ⟨_,rfl,Zg.refl H2⟩ (λj σ Hx hj ⟨_,_,sx⟩=>⟨_,_,SqT.of (sx _ _ hqv),Yi (by simpa using hj)⟩) (fun σ Hx ⟨_,_,sx⟩=>⟨_,SqT.of (sx _ _ hqv),by simp⟩) ?_ ?_
   ·rintro j x σ Hx Hx' hj ⟨v7,rfl,sx⟩ ⟨rfl,hx⟩
    have ex:=hx _ (SqT.of (sx _ _ hqv))
    obtain⟨way,hw,hw2,rfl⟩:∃way:Nat,way<=3/\way≠2/\x=V.int way:=by
     rcases(by omega:j=0\/j=1\/j=2)with rfl|rfl|rfl
     ·cases ex;exact⟨0,by decide,by decide,rfl⟩
     ·cases ex;exact⟨1,by decide,by decide,rfl⟩
     ·cases ex;exact⟨3,by decide,by decide,rfl⟩
    walk_at "rd"
    exact⟨way,t,T',m,y,rfl,hw,.inl ⟨hw2,(ht.same g).same sx⟩,by omega,Zb6.same tb1 (s1.trans (g.trans sx)),λH3 s3=>⟨true,rfl,ZE (λz=>nomatch z) λ_=>sx.trans s3⟩⟩
   ·rintro σ Hx ⟨v7,rfl,sx⟩
    exact hR _ _ ⟨v7,rfl,g.trans sx⟩
  rintro σ H2 ⟨v7,rfl,s2⟩
  walk_at "rd"
  have hr2:=s2 _ _ hr1
  refine⟨_,.inl ⟨SqL.of hr2,λl hl2=>?_⟩⟩
  have g:=(Zg.refl H2).upd (o:=.tup (ns.map V.int)) hl2
  exact⟨2,l,ns,m,0,rfl,by decide,.inr ⟨rfl,.inr (SqT.of Zc)⟩,by omega,Zb6.same tb1 (s1.trans (s2.trans g)),λH3 s3=>⟨true,rfl,ZE (λz=>nomatch z) λ_=>⟨2,r,ns,m,0,rfl,by decide,.inr ⟨rfl,.inl (SqL.of (s3 _ _ (g _ _ hr2)))⟩,by omega,Zb6.same tb1 (s1.trans (s2.trans (g.trans s3))),λH4 s4=>⟨true,rfl,ZE (λz=>nomatch z) λ_=>s1.trans (s2.trans (g.trans (s3.trans s4)))⟩⟩⟩⟩
 ·rintro σ H' ⟨v1,v2,v3,v4,v5,v6,v7,rfl,hs⟩
  walk_at "rd"
  exact k1 _
end
theorem all_mk {l:PySem.W.OpenLaw}{w:World}{K:PySem.W.Frag}{h:Heap}{mg:Str->Option Value}{fa:Addr}{ts:List Addr} (X:K.In h) (G:h.Ns mainGlobals mg) (hfa:mg "law"=some (.ref fa))
  {C_Filling:Addr} (n_Filling:nsIn K mainGlobals "Filling"=some (some (.ref C_Filling))) (pg_Filling:PySem.W.plainGet K C_Filling Str.empty=true) (hd_Filling:PySem.W.hasDictIn K C_Filling=true) (po_Filling:PySem.W.plainOver K C_Filling=true) (sa_Filling:PySem.W.findIn K (.ref C_Filling) "__setattr__"=some (some (.builtin "object.__setattr__"))) (mk_Filling:PySem.W.makesIn K C_Filling=true) (kc_Filling:keepIn K (.ref C_Filling)=true)
  (na_Filling_tree:PySem.W.findIn K (.ref C_Filling) "tree"=some none)
  (na_Filling_most:PySem.W.findIn K (.ref C_Filling) "most"=some none)
  (na_Filling_young:PySem.W.findIn K (.ref C_Filling) "young"=some none)
  (na_Filling_spans:PySem.W.findIn K (.ref C_Filling) "spans"=some none)
  (na_Filling_outsides:PySem.W.findIn K (.ref C_Filling) "outsides"=some none)
  (na_Filling_row:PySem.W.findIn K (.ref C_Filling) "row"=some none)
  (ZiH:nsIn K mainGlobals "settle"=some (some (.ref Zly))) (ZiI:K.lookup Zly=some ⟨Zue,Zuf,.func (fnOf "settle" "settle" (defArgs s_settle) (defBody s_settle) (defScope s_settle) .none Zug Zuh Zui Zuj Zn1 Zuk),Zul⟩) (ZiJ:codeIn K Zn1 "settle"=true) (Zgr:keepIn K (.ref Zly)=true)
  (Zg3:nsIn K mainGlobals "tree_of"=some (some (.ref ZjX))) (Zg4:K.lookup ZjX=some ⟨ZtS,ZtT,.func (fnOf "tree_of" "tree_of" (defArgs s_tree_of) (defBody s_tree_of) (defScope s_tree_of) .none ZtU ZtV ZtW ZtX Zmw ZtY),ZtZ⟩) (Zg5:codeIn K Zmw "tree_of"=true) (Zfr:keepIn K (.ref ZjX)=true)
  (ZiK:nsIn K mainGlobals "way_up"=some (some (.ref Zlz))) (ZiL:K.lookup Zlz=some ⟨Zum,Zun,.func (fnOf "way_up" "way_up" (defArgs s_way_up) (defBody s_way_up) (defScope s_way_up) .none Zuo Zup Zuq Zur Zn2 Zus),Zut⟩) (ZiM:codeIn K Zn2 "way_up"=true) (Zgs:keepIn K (.ref Zlz)=true)
  (Zg6:nsIn K mainGlobals "is_tree"=some (some (.ref ZjY))) (Zg7:K.lookup ZjY=some ⟨Zt0,Zt1,.func (fnOf "is_tree" "is_tree" (defArgs s_is_tree) (defBody s_is_tree) (defScope s_is_tree) .none Zt2 Zt3 Zt4 Zt5 Zmx Zt6),Zt7⟩) (Zg8:codeIn K Zmx "is_tree"=true) (Zfs:keepIn K (.ref ZjY)=true)
  (ZeA:nsIn K mainGlobals "need_tree"=some (some (.ref Zhk))) (ZeB:K.lookup Zhk=some ⟨ZrM,ZrN,.func (fnOf "need_tree" "need_tree" (defArgs s_need_tree) (defBody s_need_tree) (defScope s_need_tree) .none ZrO ZrP ZrQ ZrR Zkx ZrS),ZrT⟩) (ZeC:codeIn K Zkx "need_tree"=true) (ZcI:keepIn K (.ref Zhk)=true)
  (ZeD:nsIn K mainGlobals "fences_of"=some (some (.ref Zhl))) (ZeE:K.lookup Zhl=some ⟨ZrU,ZrV,.func (fnOf "fences_of" "fences_of" (defArgs Zba) (defBody Zba) (defScope Zba) .none ZrW ZrX ZrY ZrZ Zky Zr0),Zr1⟩) (ZeF:codeIn K Zky "fences_of"=true) (ZcJ:keepIn K (.ref Zhl)=true)
  (ZfO:nsIn K mainGlobals "young_of"=some (some (.ref ZiN))) (ZfP:K.lookup ZiN=some ⟨Ztd,Zte,.func (fnOf "young_of" "young_of" (defArgs s_young_of) (defBody s_young_of) (defScope s_young_of) .none Ztf Ztg Zth Zti ZlA Ztj),Ztk⟩) (ZfQ:codeIn K ZlA "young_of"=true) (ZdK:keepIn K (.ref ZiN)=true)
  (Zca:nsIn K mainGlobals "from_below"=some (some (.ref ZdL))) (Zcb:K.lookup ZdL=some ⟨Zql,Zqm,.func (fnOf "from_below" "from_below" (defArgs s_from_below) (defBody s_from_below) (defScope s_from_below) .none Zqn Zqo Zqp Zqq Zfy Zqr),Zqs⟩) (ZdM:codeIn K Zfy "from_below"=true) (Zcc:keepIn K (.ref ZdL)=true)
  (Zc3:Zfy=.ref ZbG) (Zc4:K.lookup ZbG=some ⟨Zqt,Zqu,.fields Zjk,Zqv⟩) (Zc5:Zjk[11]?=some (.ref ZbH)) (ZbI:PySem.W.codeHdIn K ZbG ZbH=true) (Zc6:K.lookup ZbH=none) (Zc7:ZbH∈ts)
  (Zct:nsIn K mainGlobals "running_sums"=some (some (.ref ZeG))) (Zcu:K.lookup ZeG=some ⟨Zoe,Zof,.func (fnOf "running_sums" "running_sums" (defArgs s_running_sums) (defBody s_running_sums) (defScope s_running_sums) .none Zog Zoh Zoi Zoj ZhM Zok),Zol⟩) (Zcv:codeIn K ZhM "running_sums"=true) (Zbs:keepIn K (.ref ZeG)=true)
  (ZfR:nsIn K mainGlobals "spans_of"=some (some (.ref ZiO))) (ZfS:K.lookup ZiO=some ⟨Ztl,Ztm,.func (fnOf "spans_of" "spans_of" (defArgs ZbA) (defBody ZbA) (defScope ZbA) .none Ztn Zto Ztp Ztq ZlB Ztr),Zts⟩) (ZfT:codeIn K ZlB "spans_of"=true) (ZdN:keepIn K (.ref ZiO)=true)
  (Zmy:nsIn K mainGlobals "pick"=some (some (.ref ZpV))) (Zmz:K.lookup ZpV=some ⟨ZuD,ZuE,.func (fnOf "pick" "pick" (defArgs ZgW) (defBody ZgW) (defScope ZgW) .none ZuF ZuG ZuH ZuI Zr2 ZuJ),ZuK⟩) (ZmA:codeIn K Zr2 "pick"=true) (Zkz:keepIn K (.ref ZpV)=true)
  (ZfU:nsIn K mainGlobals "need_few"=some (some (.ref ZiP))) (ZfV:K.lookup ZiP=some ⟨Ztt,Ztu,.func (fnOf "need_few" "need_few" (defArgs s_need_few) (defBody s_need_few) (defScope s_need_few) .none Ztv Ztw Ztx Zty ZlC Ztz),ZtA⟩) (ZfW:codeIn K ZlC "need_few"=true) (ZdO:keepIn K (.ref ZiP)=true)
  (ZeH:nsIn K mainGlobals "span_ways"=some (some (.ref Zhm))) (ZeI:K.lookup Zhm=some ⟨Zr3,Zr4,.func (fnOf "span_ways" "span_ways" (defArgs s_span_ways) (defBody s_span_ways) (defScope s_span_ways) .none Zr5 Zr6 Zr7 Zr8 ZkA Zr9),Zsa⟩) (ZeJ:codeIn K ZkA "span_ways"=true) (ZcK:keepIn K (.ref Zhm)=true)
  {f_Filling___init__:Addr}{od_Filling___init__ an_Filling___init__:Option Addr}{sl_Filling___init__:Array (Option Value)}{oc_Filling___init__ kV_Filling___init__ dc_Filling___init__ pm_Filling___init__ cd_Filling___init__ ct_Filling___init__:Value}
  (a_Filling___init__:PySem.W.findIn K (.ref C_Filling) "__init__"=some (some (.ref f_Filling___init__))) (i_Filling___init__:PySem.W.isFn K (.ref f_Filling___init__)=true) (l_Filling___init__:K.lookup f_Filling___init__=some ⟨oc_Filling___init__,od_Filling___init__,.func (fnOf "__init__" "Filling.__init__" (defArgs s_Filling___init__) (defBody s_Filling___init__) (defScope s_Filling___init__) .none kV_Filling___init__ dc_Filling___init__ pm_Filling___init__ an_Filling___init__ cd_Filling___init__ ct_Filling___init__),sl_Filling___init__⟩) (c_Filling___init__:codeIn K cd_Filling___init__ "Filling.__init__"=true) (k_Filling___init__:keepIn K (.ref f_Filling___init__)=true)
  {f_Filling_how_many_rows:Addr}{od_Filling_how_many_rows an_Filling_how_many_rows:Option Addr}{sl_Filling_how_many_rows:Array (Option Value)}{oc_Filling_how_many_rows kV_Filling_how_many_rows dc_Filling_how_many_rows pm_Filling_how_many_rows cd_Filling_how_many_rows ct_Filling_how_many_rows:Value}
  (a_Filling_how_many_rows:PySem.W.findIn K (.ref C_Filling) "how_many_rows"=some (some (.ref f_Filling_how_many_rows))) (i_Filling_how_many_rows:PySem.W.isFn K (.ref f_Filling_how_many_rows)=true) (l_Filling_how_many_rows:K.lookup f_Filling_how_many_rows=some ⟨oc_Filling_how_many_rows,od_Filling_how_many_rows,.func (fnOf "how_many_rows" "Filling.how_many_rows" (defArgs s_Filling_how_many_rows) (defBody s_Filling_how_many_rows) (defScope s_Filling_how_many_rows) .none kV_Filling_how_many_rows dc_Filling_how_many_rows pm_Filling_how_many_rows an_Filling_how_many_rows cd_Filling_how_many_rows ct_Filling_how_many_rows),sl_Filling_how_many_rows⟩) (c_Filling_how_many_rows:codeIn K cd_Filling_how_many_rows "Filling.how_many_rows"=true) (k_Filling_how_many_rows:keepIn K (.ref f_Filling_how_many_rows)=true)
  {f_Filling_outside_ways:Addr}{od_Filling_outside_ways an_Filling_outside_ways:Option Addr}{sl_Filling_outside_ways:Array (Option Value)}{oc_Filling_outside_ways kV_Filling_outside_ways dc_Filling_outside_ways pm_Filling_outside_ways cd_Filling_outside_ways ct_Filling_outside_ways:Value}
  (a_Filling_outside_ways:PySem.W.findIn K (.ref C_Filling) "outside_ways"=some (some (.ref f_Filling_outside_ways))) (i_Filling_outside_ways:PySem.W.isFn K (.ref f_Filling_outside_ways)=true) (l_Filling_outside_ways:K.lookup f_Filling_outside_ways=some ⟨oc_Filling_outside_ways,od_Filling_outside_ways,.func (fnOf "outside_ways" "Filling.outside_ways" (defArgs ZJ) (defBody ZJ) (defScope ZJ) .none kV_Filling_outside_ways dc_Filling_outside_ways pm_Filling_outside_ways an_Filling_outside_ways cd_Filling_outside_ways ct_Filling_outside_ways),sl_Filling_outside_ways⟩) (c_Filling_outside_ways:codeIn K cd_Filling_outside_ways "Filling.outside_ways"=true) (k_Filling_outside_ways:keepIn K (.ref f_Filling_outside_ways)=true)
  {f_Filling_outside_by_elder:Addr}{od_Filling_outside_by_elder an_Filling_outside_by_elder:Option Addr}{sl_Filling_outside_by_elder:Array (Option Value)}{oc_Filling_outside_by_elder kV_Filling_outside_by_elder dc_Filling_outside_by_elder pm_Filling_outside_by_elder cd_Filling_outside_by_elder ct_Filling_outside_by_elder:Value}
  (a_Filling_outside_by_elder:PySem.W.findIn K (.ref C_Filling) "outside_by_elder"=some (some (.ref f_Filling_outside_by_elder))) (i_Filling_outside_by_elder:PySem.W.isFn K (.ref f_Filling_outside_by_elder)=true) (l_Filling_outside_by_elder:K.lookup f_Filling_outside_by_elder=some ⟨oc_Filling_outside_by_elder,od_Filling_outside_by_elder,.func (fnOf "outside_by_elder" "Filling.outside_by_elder" (defArgs ZD) (defBody ZD) (defScope ZD) .none kV_Filling_outside_by_elder dc_Filling_outside_by_elder pm_Filling_outside_by_elder an_Filling_outside_by_elder cd_Filling_outside_by_elder ct_Filling_outside_by_elder),sl_Filling_outside_by_elder⟩) (c_Filling_outside_by_elder:codeIn K cd_Filling_outside_by_elder "Filling.outside_by_elder"=true) (k_Filling_outside_by_elder:keepIn K (.ref f_Filling_outside_by_elder)=true)
  {f_Filling_onward_ways:Addr}{od_Filling_onward_ways an_Filling_onward_ways:Option Addr}{sl_Filling_onward_ways:Array (Option Value)}{oc_Filling_onward_ways kV_Filling_onward_ways dc_Filling_onward_ways pm_Filling_onward_ways cd_Filling_onward_ways ct_Filling_onward_ways:Value}
  (a_Filling_onward_ways:PySem.W.findIn K (.ref C_Filling) "onward_ways"=some (some (.ref f_Filling_onward_ways))) (i_Filling_onward_ways:PySem.W.isFn K (.ref f_Filling_onward_ways)=true) (l_Filling_onward_ways:K.lookup f_Filling_onward_ways=some ⟨oc_Filling_onward_ways,od_Filling_onward_ways,.func (fnOf "onward_ways" "Filling.onward_ways" (defArgs ZM) (defBody ZM) (defScope ZM) .none kV_Filling_onward_ways dc_Filling_onward_ways pm_Filling_onward_ways an_Filling_onward_ways cd_Filling_onward_ways ct_Filling_onward_ways),sl_Filling_onward_ways⟩) (c_Filling_onward_ways:codeIn K cd_Filling_onward_ways "Filling.onward_ways"=true) (k_Filling_onward_ways:keepIn K (.ref f_Filling_onward_ways)=true)
  {f_Filling_next_ways:Addr}{od_Filling_next_ways an_Filling_next_ways:Option Addr}{sl_Filling_next_ways:Array (Option Value)}{oc_Filling_next_ways kV_Filling_next_ways dc_Filling_next_ways pm_Filling_next_ways cd_Filling_next_ways ct_Filling_next_ways:Value}
  (a_Filling_next_ways:PySem.W.findIn K (.ref C_Filling) "next_ways"=some (some (.ref f_Filling_next_ways))) (i_Filling_next_ways:PySem.W.isFn K (.ref f_Filling_next_ways)=true) (l_Filling_next_ways:K.lookup f_Filling_next_ways=some ⟨oc_Filling_next_ways,od_Filling_next_ways,.func (fnOf "next_ways" "Filling.next_ways" (defArgs ZU) (defBody ZU) (defScope ZU) .none kV_Filling_next_ways dc_Filling_next_ways pm_Filling_next_ways an_Filling_next_ways cd_Filling_next_ways ct_Filling_next_ways),sl_Filling_next_ways⟩) (c_Filling_next_ways:codeIn K cd_Filling_next_ways "Filling.next_ways"=true) (k_Filling_next_ways:keepIn K (.ref f_Filling_next_ways)=true)
  (ZeK:nsIn K mainGlobals "many_rows"=some (some (.ref Zhn))) (ZeL:K.lookup Zhn=some ⟨Zsb,Zsc,.func (fnOf "many_rows" "many_rows" (defArgs s_many_rows) (defBody s_many_rows) (defScope s_many_rows) .none Zsd Zse Zsf Zsg ZkB Zsh),Zsi⟩) (ZeM:codeIn K ZkB "many_rows"=true) (ZcL:keepIn K (.ref Zhn)=true)
  (ZiQ:nsIn K mainGlobals "row_at"=some (some (.ref ZlD))) (ZiR:K.lookup ZlD=some ⟨Zuu,Zuv,.func (fnOf "row_at" "row_at" (defArgs Zdm) (defBody Zdm) (defScope Zdm) .none Zuw Zux Zuy Zuz Zn3 ZuA),ZuB⟩) (ZiS:codeIn K Zn3 "row_at"=true) (Zgt:keepIn K (.ref ZlD)=true)
  (Zb0:nsIn K mainGlobals "number_of_row"=some (some (.ref Zd3))) (Zb1:K.lookup Zd3=some ⟨Zn4,Zn5,.func (fnOf "number_of_row" "number_of_row" (defArgs Zab) (defBody Zab) (defScope Zab) .none Zn6 Zn7 Zn8 Zn9 Zg9 Zoa),Zob⟩) (Zb2:codeIn K Zg9 "number_of_row"=true) (Za4:keepIn K (.ref Zd3)=true)
  (Zc8:nsIn K mainGlobals "many_orders"=some (some (.ref Zfz))) (Zc9:K.lookup Zfz=some ⟨ZpW,ZpX,.func (fnOf "many_orders" "many_orders" (defArgs ZaA) (defBody ZaA) (defScope ZaA) .none ZpY ZpZ Zp0 Zp1 ZiT Zp2),Zp3⟩) (Zda:codeIn K ZiT "many_orders"=true) (ZbJ:keepIn K (.ref Zfz)=true)
  (ZeN:nsIn K mainGlobals "_law_deal"=some (some (.ref Zho))) (ZeO:K.lookup Zho=some ⟨Zsj,Zsk,.func (fnOf "_law_deal" "_law_deal" (defArgs s__law_deal) (defBody s__law_deal) (defScope s__law_deal) .none Zsl Zsm Zsn Zso ZkC Zsp),Zsq⟩) (ZeP:codeIn K ZkC "_law_deal"=true) (ZcM:keepIn K (.ref Zho)=true)
  (ZeQ:nsIn K mainGlobals "_law_take"=some (some (.ref Zhp))) (ZeR:K.lookup Zhp=some ⟨Zsr,Zss,.func (fnOf "_law_take" "_law_take" (defArgs s__law_take) (defBody s__law_take) (defScope s__law_take) .none Zst Zsu Zsv Zsw ZkD Zsx),Zsy⟩) (ZeS:codeIn K ZkD "_law_take"=true) (ZcN:keepIn K (.ref Zhp)=true)
  (Zdb:nsIn K mainGlobals "_law_unlike"=some (some (.ref ZfA))) (Zdc:K.lookup ZfA=some ⟨Zp4,Zp5,.func (fnOf "_law_unlike" "_law_unlike" (defArgs s__law_unlike) (defBody s__law_unlike) (defScope s__law_unlike) .none Zp6 Zp7 Zp8 Zp9 ZiU Zqa),Zqb⟩) (Zdd:codeIn K ZiU "_law_unlike"=true) (ZbK:keepIn K (.ref ZfA)=true)
  (ZfX:nsIn K mainGlobals "_law_row"=some (some (.ref ZiV))) (ZfY:K.lookup ZiV=some ⟨ZtB,ZtC,.func (fnOf "_law_row" "_law_row" (defArgs s__law_row) (defBody s__law_row) (defScope s__law_row) .none ZtD ZtE ZtF ZtG ZlE ZtH),ZtI⟩) (ZfZ:codeIn K ZlE "_law_row"=true) (ZdP:keepIn K (.ref ZiV)=true)
  (ZeT:nsIn K mainGlobals "_law_tree"=some (some (.ref Zhq))) (ZeU:K.lookup Zhq=some ⟨Zsz,ZsA,.func (fnOf "_law_tree" "_law_tree" (defArgs s__law_tree) (defBody s__law_tree) (defScope s__law_tree) .none ZsB ZsC ZsD ZsE ZkE ZsF),ZsG⟩) (ZeV:codeIn K ZkE "_law_tree"=true) (ZcO:keepIn K (.ref Zhq)=true)
  (ZeW:nsIn K mainGlobals "_law_over"=some (some (.ref Zhr))) (ZeX:K.lookup Zhr=some ⟨ZsH,ZsI,.func (fnOf "_law_over" "_law_over" (defArgs Zbb) (defBody Zbb) (defScope Zbb) .none ZsJ ZsK ZsL ZsM ZkF ZsN),ZsO⟩) (ZeY:codeIn K ZkF "_law_over"=true) (ZcP:keepIn K (.ref Zhr)=true)
  (ZeZ:nsIn K mainGlobals "_law_flat"=some (some (.ref Zhs))) (Ze0:K.lookup Zhs=some ⟨ZsP,ZsQ,.func (fnOf "_law_flat" "_law_flat" (defArgs Zbc) (defBody Zbc) (defScope Zbc) .none ZsR ZsS ZsT ZsU ZkG ZsV),ZsW⟩) (Ze1:codeIn K ZkG "_law_flat"=true) (ZcQ:keepIn K (.ref Zhs)=true)
  (ZdQ:nsIn K mainGlobals "_law_whole"=some (some (.ref Zgu))) (ZdR:K.lookup Zgu=some ⟨Zqw,Zqx,.func (fnOf "_law_whole" "_law_whole" (defArgs s__law_whole) (defBody s__law_whole) (defScope s__law_whole) .none Zqy Zqz ZqA ZqB Zjl ZqC),ZqD⟩) (ZdS:codeIn K Zjl "_law_whole"=true) (Zcd:keepIn K (.ref Zgu)=true)
  (Zcw:nsIn K mainGlobals "_law_numbers"=some (some (.ref Ze2))) (Zcx:K.lookup Ze2=some ⟨Zom,Zon,.func (fnOf "_law_numbers" "_law_numbers" (defArgs Zal) (defBody Zal) (defScope Zal) .none Zoo Zop Zoq Zor ZhN Zos),Zot⟩) (Zcy:codeIn K ZhN "_law_numbers"=true) (Zbt:keepIn K (.ref Ze2)=true)
  (ZdT:nsIn K mainGlobals "_law_alone"=some (some (.ref Zgv))) (ZdU:K.lookup Zgv=some ⟨ZqE,ZqF,.func (fnOf "_law_alone" "_law_alone" (defArgs ZaQ) (defBody ZaQ) (defScope ZaQ) .none ZqG ZqH ZqI ZqJ Zjm ZqK),ZqL⟩) (ZdV:codeIn K Zjm "_law_alone"=true) (Zce:keepIn K (.ref Zgv)=true)
  (Zbu:nsIn K mainGlobals "_law_counted"=some (some (.ref Ze3))) (Zcz:K.lookup Ze3=some ⟨Zou,Zov,.func (fnOf "_law_counted" "_law_counted" (defArgs s__law_counted) (defBody s__law_counted) (defScope s__law_counted) .none Zow Zox Zoy Zoz ZhO ZoA),ZoB⟩) (ZcA:codeIn K ZhO "_law_counted"=true) (ZaJ:keepIn K (.ref Ze3)=true)
  (Ze4:nsIn K mainGlobals "_law_many"=some (some (.ref Zht))) (Ze5:K.lookup Zht=some ⟨ZsX,ZsY,.func (fnOf "_law_many" "_law_many" (defArgs s__law_many) (defBody s__law_many) (defScope s__law_many) .none ZsZ Zs0 Zs1 Zs2 ZkH Zs3),Zs4⟩) (Ze6:codeIn K ZkH "_law_many"=true) (ZcR:keepIn K (.ref Zht)=true)
  (ZcB:nsIn K mainGlobals "_law_is_tree"=some (some (.ref Ze7))) (ZcC:K.lookup Ze7=some ⟨ZoC,ZoD,.func (fnOf "_law_is_tree" "_law_is_tree" (defArgs Zam) (defBody Zam) (defScope Zam) .none ZoE ZoF ZoG ZoH ZhP ZoI),ZoJ⟩) (ZcD:codeIn K ZhP "_law_is_tree"=true) (Zbv:keepIn K (.ref Ze7)=true)
  (Ze8:nsIn K mainGlobals "_law_bent"=some (some (.ref Zhu))) (Ze9:K.lookup Zhu=some ⟨Zs5,Zs6,.func (fnOf "_law_bent" "_law_bent" (defArgs Zbd) (defBody Zbd) (defScope Zbd) .none Zs7 Zs8 Zs9 Zta ZkI Ztb),Ztc⟩) (Zfa:codeIn K ZkI "_law_bent"=true) (ZcS:keepIn K (.ref Zhu)=true)
  (ZdW:nsIn K mainGlobals "_law_heard"=some (some (.ref Zgw))) (ZdX:K.lookup Zgw=some ⟨ZqM,ZqN,.func (fnOf "_law_heard" "_law_heard" (defArgs ZaR) (defBody ZaR) (defScope ZaR) .none ZqO ZqP ZqQ ZqR Zjn ZqS),ZqT⟩) (ZdY:codeIn K Zjn "_law_heard"=true) (Zcf:keepIn K (.ref Zgw)=true)
  (Zf0:nsIn K mainGlobals "_law_due"=some (some (.ref ZiW))) (Zf1:K.lookup ZiW=some ⟨ZtJ,ZtK,.func (fnOf "_law_due" "_law_due" (defArgs ZbB) (defBody ZbB) (defScope ZbB) .none ZtL ZtM ZtN ZtO ZlF ZtP),ZtQ⟩) (Zf2:codeIn K ZlF "_law_due"=true) (ZdZ:keepIn K (.ref ZiW)=true)
  (Zd0:nsIn K mainGlobals "_law_right"=some (some (.ref Zgx))) (Zd1:K.lookup Zgx=some ⟨ZqU,ZqV,.func (fnOf "_law_right" "_law_right" (defArgs s__law_right) (defBody s__law_right) (defScope s__law_right) .none ZqW ZqX ZqY ZqZ Zjo Zq0),Zq1⟩) (Zd2:codeIn K Zjo "_law_right"=true) (Zcg:keepIn K (.ref Zgx)=true)
  (Zqc:nsIn K mainGlobals "law"=some (some (.ref ZtR))) (Zqd:K.lookup ZtR=some ⟨ZuL,ZuM,.func (fnOf "law" "law" (defArgs s_law) (defBody s_law) (defScope s_law) .none Zt8 Zt9 Zua Zub Zqe Zuc),ZuN⟩) (Zqf:codeIn K Zqe "law"=true) (Zqg:keepIn K (.ref ZtR)=true)
  {C_DipError:Addr} (n_DipError:nsIn K mainGlobals "DipError"=some (some (.ref C_DipError))) (x_DipError:PySem.W.excIn K C_DipError bmV newV=true) (d_DipError:PySem.W.hasDictIn K C_DipError=true) (y_DipError:PySem.W.typeIn K (.ref C_DipError)=some (.type "type"))
  {C_Unlike:Addr} (n_Unlike:nsIn K mainGlobals "Unlike"=some (some (.ref C_Unlike))) (x_Unlike:PySem.W.excIn K C_Unlike bmV newV=true) (d_Unlike:PySem.W.hasDictIn K C_Unlike=true) (y_Unlike:PySem.W.typeIn K (.ref C_Unlike)=some (.type "type"))
  {C_Empty:Addr} (n_Empty:nsIn K mainGlobals "Empty"=some (some (.ref C_Empty))) (x_Empty:PySem.W.excIn K C_Empty bmV newV=true) (d_Empty:PySem.W.hasDictIn K C_Empty=true) (y_Empty:PySem.W.typeIn K (.ref C_Empty)=some (.type "type"))
  {C_TooMany:Addr} (n_TooMany:nsIn K mainGlobals "TooMany"=some (some (.ref C_TooMany))) (x_TooMany:PySem.W.excIn K C_TooMany bmV newV=true) (d_TooMany:PySem.W.hasDictIn K C_TooMany=true) (y_TooMany:PySem.W.typeIn K (.ref C_TooMany)=some (.type "type"))
  {C_NoTree:Addr} (n_NoTree:nsIn K mainGlobals "NoTree"=some (some (.ref C_NoTree))) (x_NoTree:PySem.W.excIn K C_NoTree bmV newV=true) (d_NoTree:PySem.W.hasDictIn K C_NoTree=true) (y_NoTree:PySem.W.typeIn K (.ref C_NoTree)=some (.type "type"))
  {C_NoTelling:Addr} (n_NoTelling:nsIn K mainGlobals "NoTelling"=some (some (.ref C_NoTelling))) (x_NoTelling:PySem.W.excIn K C_NoTelling bmV newV=true) (d_NoTelling:PySem.W.hasDictIn K C_NoTelling=true) (y_NoTelling:PySem.W.typeIn K (.ref C_NoTelling)=some (.type "type"))
  {C_NoPlace:Addr} (n_NoPlace:nsIn K mainGlobals "NoPlace"=some (some (.ref C_NoPlace))) (x_NoPlace:PySem.W.excIn K C_NoPlace bmV newV=true) (d_NoPlace:PySem.W.hasDictIn K C_NoPlace=true) (y_NoPlace:PySem.W.typeIn K (.ref C_NoPlace)=some (.type "type"))
  {C_NoNumber:Addr} (n_NoNumber:nsIn K mainGlobals "NoNumber"=some (some (.ref C_NoNumber))) (x_NoNumber:PySem.W.excIn K C_NoNumber bmV newV=true) (d_NoNumber:PySem.W.hasDictIn K C_NoNumber=true) (y_NoNumber:PySem.W.typeIn K (.ref C_NoNumber)=some (.type "type"))
  {C_NoPast:Addr} (n_NoPast:nsIn K mainGlobals "NoPast"=some (some (.ref C_NoPast))) (x_NoPast:PySem.W.excIn K C_NoPast bmV newV=true) (d_NoPast:PySem.W.hasDictIn K C_NoPast=true) (y_NoPast:PySem.W.typeIn K (.ref C_NoPast)=some (.type "type"))
  {C_NoText:Addr} (n_NoText:nsIn K mainGlobals "NoText"=some (some (.ref C_NoText))) (x_NoText:PySem.W.excIn K C_NoText bmV newV=true) (d_NoText:PySem.W.hasDictIn K C_NoText=true) (y_NoText:PySem.W.typeIn K (.ref C_NoText)=some (.type "type"))
  {C_NoLine:Addr} (n_NoLine:nsIn K mainGlobals "NoLine"=some (some (.ref C_NoLine))) (x_NoLine:PySem.W.excIn K C_NoLine bmV newV=true) (d_NoLine:PySem.W.hasDictIn K C_NoLine=true) (y_NoLine:PySem.W.typeIn K (.ref C_NoLine)=some (.type "type"))
  (z1_NoTree:PySem.W.hasDictIn K C_NoTree=true) (z2_NoTree:PySem.W.findIn K (.ref C_NoTree) "__getattribute__"=some (some (.builtin "BaseException.__getattribute__"))) (z3_NoTree:PySem.W.findIn K (.ref C_NoTree) "__getattr__"=some none) (z4_NoTree:PySem.W.findIn K (.ref C_NoTree) "__class__"=some (some (.builtin "object.__class__"))) (z5_NoTree:PySem.W.specialIn K (.builtin "object.__class__") "__get__"=some (some (.builtin "getset_descriptor.__get__"))) (z6_NoTree:PySem.W.takesIn K (.builtin "object.__class__")=some true) (z7_NoTree:PySem.W.mroIn K C_NoTree (.type "object")=some true) (z8_NoTree:PySem.W.mroIn K C_NoTree (.type "BaseException")=some true)
  (u_NoTree:PySem.W.mroIn K C_NoTree (.ref C_DipError)=some true)
  (i_NoTree_DipError:PySem.W.subIn K (.ref C_NoTree) (.ref C_DipError)=some true) (ne_NoTree_DipError:C_NoTree≠C_DipError)
  (i_NoTree_Unlike:PySem.W.subIn K (.ref C_NoTree) (.ref C_Unlike)=some false) (ne_NoTree_Unlike:C_NoTree≠C_Unlike)
  (i_NoTree_Empty:PySem.W.subIn K (.ref C_NoTree) (.ref C_Empty)=some false) (ne_NoTree_Empty:C_NoTree≠C_Empty)
  (i_NoTree_TooMany:PySem.W.subIn K (.ref C_NoTree) (.ref C_TooMany)=some false) (ne_NoTree_TooMany:C_NoTree≠C_TooMany)
  (i_NoTree_NoTelling:PySem.W.subIn K (.ref C_NoTree) (.ref C_NoTelling)=some false) (ne_NoTree_NoTelling:C_NoTree≠C_NoTelling)
  (i_NoTree_NoPlace:PySem.W.subIn K (.ref C_NoTree) (.ref C_NoPlace)=some false) (ne_NoTree_NoPlace:C_NoTree≠C_NoPlace)
  (i_NoTree_NoNumber:PySem.W.subIn K (.ref C_NoTree) (.ref C_NoNumber)=some false) (ne_NoTree_NoNumber:C_NoTree≠C_NoNumber)
  (i_NoTree_NoPast:PySem.W.subIn K (.ref C_NoTree) (.ref C_NoPast)=some false) (ne_NoTree_NoPast:C_NoTree≠C_NoPast)
  (i_NoTree_NoText:PySem.W.subIn K (.ref C_NoTree) (.ref C_NoText)=some false) (ne_NoTree_NoText:C_NoTree≠C_NoText)
  (i_NoTree_NoLine:PySem.W.subIn K (.ref C_NoTree) (.ref C_NoLine)=some false) (ne_NoTree_NoLine:C_NoTree≠C_NoLine)
  (i_NoTree_V:PySem.W.subIn K (.ref C_NoTree) (.type "ValueError")=some true)
  (z1_TooMany:PySem.W.hasDictIn K C_TooMany=true) (z2_TooMany:PySem.W.findIn K (.ref C_TooMany) "__getattribute__"=some (some (.builtin "BaseException.__getattribute__"))) (z3_TooMany:PySem.W.findIn K (.ref C_TooMany) "__getattr__"=some none) (z4_TooMany:PySem.W.findIn K (.ref C_TooMany) "__class__"=some (some (.builtin "object.__class__"))) (z5_TooMany:PySem.W.specialIn K (.builtin "object.__class__") "__get__"=some (some (.builtin "getset_descriptor.__get__"))) (z6_TooMany:PySem.W.takesIn K (.builtin "object.__class__")=some true) (z7_TooMany:PySem.W.mroIn K C_TooMany (.type "object")=some true) (z8_TooMany:PySem.W.mroIn K C_TooMany (.type "BaseException")=some true)
  (u_TooMany:PySem.W.mroIn K C_TooMany (.ref C_DipError)=some true)
  (i_TooMany_DipError:PySem.W.subIn K (.ref C_TooMany) (.ref C_DipError)=some true) (ne_TooMany_DipError:C_TooMany≠C_DipError)
  (i_TooMany_Unlike:PySem.W.subIn K (.ref C_TooMany) (.ref C_Unlike)=some false) (ne_TooMany_Unlike:C_TooMany≠C_Unlike)
  (i_TooMany_Empty:PySem.W.subIn K (.ref C_TooMany) (.ref C_Empty)=some false) (ne_TooMany_Empty:C_TooMany≠C_Empty)
  (i_TooMany_NoTree:PySem.W.subIn K (.ref C_TooMany) (.ref C_NoTree)=some false) (ne_TooMany_NoTree:C_TooMany≠C_NoTree)
  (i_TooMany_NoTelling:PySem.W.subIn K (.ref C_TooMany) (.ref C_NoTelling)=some false) (ne_TooMany_NoTelling:C_TooMany≠C_NoTelling)
  (i_TooMany_NoPlace:PySem.W.subIn K (.ref C_TooMany) (.ref C_NoPlace)=some false) (ne_TooMany_NoPlace:C_TooMany≠C_NoPlace)
  (i_TooMany_NoNumber:PySem.W.subIn K (.ref C_TooMany) (.ref C_NoNumber)=some false) (ne_TooMany_NoNumber:C_TooMany≠C_NoNumber)
  (i_TooMany_NoPast:PySem.W.subIn K (.ref C_TooMany) (.ref C_NoPast)=some false) (ne_TooMany_NoPast:C_TooMany≠C_NoPast)
  (i_TooMany_NoText:PySem.W.subIn K (.ref C_TooMany) (.ref C_NoText)=some false) (ne_TooMany_NoText:C_TooMany≠C_NoText)
  (i_TooMany_NoLine:PySem.W.subIn K (.ref C_TooMany) (.ref C_NoLine)=some false) (ne_TooMany_NoLine:C_TooMany≠C_NoLine)
  (i_TooMany_V:PySem.W.subIn K (.ref C_TooMany) (.type "ValueError")=some true)
  (z1_NoNumber:PySem.W.hasDictIn K C_NoNumber=true) (z2_NoNumber:PySem.W.findIn K (.ref C_NoNumber) "__getattribute__"=some (some (.builtin "BaseException.__getattribute__"))) (z3_NoNumber:PySem.W.findIn K (.ref C_NoNumber) "__getattr__"=some none) (z4_NoNumber:PySem.W.findIn K (.ref C_NoNumber) "__class__"=some (some (.builtin "object.__class__"))) (z5_NoNumber:PySem.W.specialIn K (.builtin "object.__class__") "__get__"=some (some (.builtin "getset_descriptor.__get__"))) (z6_NoNumber:PySem.W.takesIn K (.builtin "object.__class__")=some true) (z7_NoNumber:PySem.W.mroIn K C_NoNumber (.type "object")=some true) (z8_NoNumber:PySem.W.mroIn K C_NoNumber (.type "BaseException")=some true)
  (u_NoNumber:PySem.W.mroIn K C_NoNumber (.ref C_DipError)=some true)
  (i_NoNumber_DipError:PySem.W.subIn K (.ref C_NoNumber) (.ref C_DipError)=some true) (ne_NoNumber_DipError:C_NoNumber≠C_DipError)
  (i_NoNumber_Unlike:PySem.W.subIn K (.ref C_NoNumber) (.ref C_Unlike)=some false) (ne_NoNumber_Unlike:C_NoNumber≠C_Unlike)
  (i_NoNumber_Empty:PySem.W.subIn K (.ref C_NoNumber) (.ref C_Empty)=some false) (ne_NoNumber_Empty:C_NoNumber≠C_Empty)
  (i_NoNumber_TooMany:PySem.W.subIn K (.ref C_NoNumber) (.ref C_TooMany)=some false) (ne_NoNumber_TooMany:C_NoNumber≠C_TooMany)
  (i_NoNumber_NoTree:PySem.W.subIn K (.ref C_NoNumber) (.ref C_NoTree)=some false) (ne_NoNumber_NoTree:C_NoNumber≠C_NoTree)
  (i_NoNumber_NoTelling:PySem.W.subIn K (.ref C_NoNumber) (.ref C_NoTelling)=some false) (ne_NoNumber_NoTelling:C_NoNumber≠C_NoTelling)
  (i_NoNumber_NoPlace:PySem.W.subIn K (.ref C_NoNumber) (.ref C_NoPlace)=some false) (ne_NoNumber_NoPlace:C_NoNumber≠C_NoPlace)
  (i_NoNumber_NoPast:PySem.W.subIn K (.ref C_NoNumber) (.ref C_NoPast)=some false) (ne_NoNumber_NoPast:C_NoNumber≠C_NoPast)
  (i_NoNumber_NoText:PySem.W.subIn K (.ref C_NoNumber) (.ref C_NoText)=some false) (ne_NoNumber_NoText:C_NoNumber≠C_NoText)
  (i_NoNumber_NoLine:PySem.W.subIn K (.ref C_NoNumber) (.ref C_NoLine)=some false) (ne_NoNumber_NoLine:C_NoNumber≠C_NoLine)
  (i_NoNumber_V:PySem.W.subIn K (.ref C_NoNumber) (.type "ValueError")=some true)
  (b_ValueError:nsIn K mainGlobals "ValueError"=some none)
  (b_all:nsIn K mainGlobals "all"=some none)
  (b_bool:nsIn K mainGlobals "bool"=some none)
  (b_enumerate:nsIn K mainGlobals "enumerate"=some none)
  (b_int:nsIn K mainGlobals "int"=some none)
  (b_isinstance:nsIn K mainGlobals "isinstance"=some none)
  (b_len:nsIn K mainGlobals "len"=some none)
  (b_list:nsIn K mainGlobals "list"=some none)
  (b_max:nsIn K mainGlobals "max"=some none)
  (b_min:nsIn K mainGlobals "min"=some none)
  (b_range:nsIn K mainGlobals "range"=some none)
  (b_reversed:nsIn K mainGlobals "reversed"=some none)
  (b_sorted:nsIn K mainGlobals "sorted"=some none)
  (b_sum:nsIn K mainGlobals "sum"=some none)
  (b_tuple:nsIn K mainGlobals "tuple"=some none)
  {t_MOST_PLACES:Tok} (m_MOST_PLACES:nsIn K mainGlobals "MOST_PLACES"=some (some (.int 40 t_MOST_PLACES)))
  {t_MOST_FILLED:Tok} (m_MOST_FILLED:nsIn K mainGlobals "MOST_FILLED"=some (some (.int 12 t_MOST_FILLED)))
  (nd:[ZbH].Nodup)
  : ∃fd:FuncData,(∀(s:Shared) (v:Value),BindsTo s fd ⟨[v],[]⟩ [("script",v)])/\(∀p∈tabsL K mg,p.1∈ts/\K.lookup p.1=none/\∃c,PySem.W.codeHdIn K c p.1=true)/\((tabsL K mg).map (·.1)).Nodup/\∀base:Heap,K.In base->base.Ns mainGlobals mg->BM mg base->FnOk l.prog w K mg base (CXE l.prog w) 47 fa fd ["script"] (spLaw K mg):=by
 have e:=hfa.symm.trans (mg_of X G Zqc)
 cases e
 have q_DipError:clsAt mg "DipError"=C_DipError:=by unfold clsAt;rw[mg_of X G n_DipError]
 have q_Unlike:clsAt mg "Unlike"=C_Unlike:=by unfold clsAt;rw[mg_of X G n_Unlike]
 have q_Empty:clsAt mg "Empty"=C_Empty:=by unfold clsAt;rw[mg_of X G n_Empty]
 have q_TooMany:clsAt mg "TooMany"=C_TooMany:=by unfold clsAt;rw[mg_of X G n_TooMany]
 have q_NoTree:clsAt mg "NoTree"=C_NoTree:=by unfold clsAt;rw[mg_of X G n_NoTree]
 have q_NoTelling:clsAt mg "NoTelling"=C_NoTelling:=by unfold clsAt;rw[mg_of X G n_NoTelling]
 have q_NoPlace:clsAt mg "NoPlace"=C_NoPlace:=by unfold clsAt;rw[mg_of X G n_NoPlace]
 have q_NoNumber:clsAt mg "NoNumber"=C_NoNumber:=by unfold clsAt;rw[mg_of X G n_NoNumber]
 have q_NoPast:clsAt mg "NoPast"=C_NoPast:=by unfold clsAt;rw[mg_of X G n_NoPast]
 have q_NoText:clsAt mg "NoText"=C_NoText:=by unfold clsAt;rw[mg_of X G n_NoText]
 have q_NoLine:clsAt mg "NoLine"=C_NoLine:=by unfold clsAt;rw[mg_of X G n_NoLine]
 have q_Filling:clsAt mg "Filling"=C_Filling:=by unfold clsAt;rw[mg_of X G n_Filling]
 have q_MOST_PLACES:tokAt mg "MOST_PLACES"=t_MOST_PLACES:=by unfold tokAt;rw[mg_of X G m_MOST_PLACES]
 have q_MOST_FILLED:tokAt mg "MOST_FILLED"=t_MOST_FILLED:=by unfold tokAt;rw[mg_of X G m_MOST_FILLED]
 have T:Txt K mg:={
  b_ValueError:=mg_none_of X G b_ValueError
  b_all:=mg_none_of X G b_all
  b_bool:=mg_none_of X G b_bool
  b_enumerate:=mg_none_of X G b_enumerate
  b_int:=mg_none_of X G b_int
  b_isinstance:=mg_none_of X G b_isinstance
  b_len:=mg_none_of X G b_len
  b_list:=mg_none_of X G b_list
  b_max:=mg_none_of X G b_max
  b_min:=mg_none_of X G b_min
  b_range:=mg_none_of X G b_range
  b_reversed:=mg_none_of X G b_reversed
  b_sorted:=mg_none_of X G b_sorted
  b_sum:=mg_none_of X G b_sum
  b_tuple:=mg_none_of X G b_tuple
  c_DipError:=by rw[q_DipError];exact mg_of X G n_DipError
  x_DipError:=by rw[q_DipError];exact x_DipError
  c_Unlike:=by rw[q_Unlike];exact mg_of X G n_Unlike
  x_Unlike:=by rw[q_Unlike];exact x_Unlike
  c_Empty:=by rw[q_Empty];exact mg_of X G n_Empty
  x_Empty:=by rw[q_Empty];exact x_Empty
  c_TooMany:=by rw[q_TooMany];exact mg_of X G n_TooMany
  x_TooMany:=by rw[q_TooMany];exact x_TooMany
  c_NoTree:=by rw[q_NoTree];exact mg_of X G n_NoTree
  x_NoTree:=by rw[q_NoTree];exact x_NoTree
  c_NoTelling:=by rw[q_NoTelling];exact mg_of X G n_NoTelling
  x_NoTelling:=by rw[q_NoTelling];exact x_NoTelling
  c_NoPlace:=by rw[q_NoPlace];exact mg_of X G n_NoPlace
  x_NoPlace:=by rw[q_NoPlace];exact x_NoPlace
  c_NoNumber:=by rw[q_NoNumber];exact mg_of X G n_NoNumber
  x_NoNumber:=by rw[q_NoNumber];exact x_NoNumber
  c_NoPast:=by rw[q_NoPast];exact mg_of X G n_NoPast
  x_NoPast:=by rw[q_NoPast];exact x_NoPast
  c_NoText:=by rw[q_NoText];exact mg_of X G n_NoText
  x_NoText:=by rw[q_NoText];exact x_NoText
  c_NoLine:=by rw[q_NoLine];exact mg_of X G n_NoLine
  x_NoLine:=by rw[q_NoLine];exact x_NoLine
  ex_NoTree:=by rw[q_NoTree];exact⟨z1_NoTree,z2_NoTree,z3_NoTree,z4_NoTree,z5_NoTree,z6_NoTree,z7_NoTree,z8_NoTree⟩
  up_NoTree:=by rw[q_NoTree,q_DipError];exact u_NoTree
  is_NoTree_DipError:=by rw[q_NoTree,q_DipError];exact ZH ne_NoTree_DipError d_DipError y_DipError i_NoTree_DipError
  is_NoTree_Unlike:=by rw[q_NoTree,q_Unlike];exact ZH ne_NoTree_Unlike d_Unlike y_Unlike i_NoTree_Unlike
  is_NoTree_Empty:=by rw[q_NoTree,q_Empty];exact ZH ne_NoTree_Empty d_Empty y_Empty i_NoTree_Empty
  is_NoTree_TooMany:=by rw[q_NoTree,q_TooMany];exact ZH ne_NoTree_TooMany d_TooMany y_TooMany i_NoTree_TooMany
  is_NoTree_NoTree:=by rw[q_NoTree];exact Zid
  is_NoTree_NoTelling:=by rw[q_NoTree,q_NoTelling];exact ZH ne_NoTree_NoTelling d_NoTelling y_NoTelling i_NoTree_NoTelling
  is_NoTree_NoPlace:=by rw[q_NoTree,q_NoPlace];exact ZH ne_NoTree_NoPlace d_NoPlace y_NoPlace i_NoTree_NoPlace
  is_NoTree_NoNumber:=by rw[q_NoTree,q_NoNumber];exact ZH ne_NoTree_NoNumber d_NoNumber y_NoNumber i_NoTree_NoNumber
  is_NoTree_NoPast:=by rw[q_NoTree,q_NoPast];exact ZH ne_NoTree_NoPast d_NoPast y_NoPast i_NoTree_NoPast
  is_NoTree_NoText:=by rw[q_NoTree,q_NoText];exact ZH ne_NoTree_NoText d_NoText y_NoText i_NoTree_NoText
  is_NoTree_NoLine:=by rw[q_NoTree,q_NoLine];exact ZH ne_NoTree_NoLine d_NoLine y_NoLine i_NoTree_NoLine
  is_NoTree_V:=by rw[q_NoTree];exact Zo6 i_NoTree_V
  ex_TooMany:=by rw[q_TooMany];exact⟨z1_TooMany,z2_TooMany,z3_TooMany,z4_TooMany,z5_TooMany,z6_TooMany,z7_TooMany,z8_TooMany⟩
  up_TooMany:=by rw[q_TooMany,q_DipError];exact u_TooMany
  is_TooMany_DipError:=by rw[q_TooMany,q_DipError];exact ZH ne_TooMany_DipError d_DipError y_DipError i_TooMany_DipError
  is_TooMany_Unlike:=by rw[q_TooMany,q_Unlike];exact ZH ne_TooMany_Unlike d_Unlike y_Unlike i_TooMany_Unlike
  is_TooMany_Empty:=by rw[q_TooMany,q_Empty];exact ZH ne_TooMany_Empty d_Empty y_Empty i_TooMany_Empty
  is_TooMany_TooMany:=by rw[q_TooMany];exact Zid
  is_TooMany_NoTree:=by rw[q_TooMany,q_NoTree];exact ZH ne_TooMany_NoTree d_NoTree y_NoTree i_TooMany_NoTree
  is_TooMany_NoTelling:=by rw[q_TooMany,q_NoTelling];exact ZH ne_TooMany_NoTelling d_NoTelling y_NoTelling i_TooMany_NoTelling
  is_TooMany_NoPlace:=by rw[q_TooMany,q_NoPlace];exact ZH ne_TooMany_NoPlace d_NoPlace y_NoPlace i_TooMany_NoPlace
  is_TooMany_NoNumber:=by rw[q_TooMany,q_NoNumber];exact ZH ne_TooMany_NoNumber d_NoNumber y_NoNumber i_TooMany_NoNumber
  is_TooMany_NoPast:=by rw[q_TooMany,q_NoPast];exact ZH ne_TooMany_NoPast d_NoPast y_NoPast i_TooMany_NoPast
  is_TooMany_NoText:=by rw[q_TooMany,q_NoText];exact ZH ne_TooMany_NoText d_NoText y_NoText i_TooMany_NoText
  is_TooMany_NoLine:=by rw[q_TooMany,q_NoLine];exact ZH ne_TooMany_NoLine d_NoLine y_NoLine i_TooMany_NoLine
  is_TooMany_V:=by rw[q_TooMany];exact Zo6 i_TooMany_V
  ex_NoNumber:=by rw[q_NoNumber];exact⟨z1_NoNumber,z2_NoNumber,z3_NoNumber,z4_NoNumber,z5_NoNumber,z6_NoNumber,z7_NoNumber,z8_NoNumber⟩
  up_NoNumber:=by rw[q_NoNumber,q_DipError];exact u_NoNumber
  is_NoNumber_DipError:=by rw[q_NoNumber,q_DipError];exact ZH ne_NoNumber_DipError d_DipError y_DipError i_NoNumber_DipError
  is_NoNumber_Unlike:=by rw[q_NoNumber,q_Unlike];exact ZH ne_NoNumber_Unlike d_Unlike y_Unlike i_NoNumber_Unlike
  is_NoNumber_Empty:=by rw[q_NoNumber,q_Empty];exact ZH ne_NoNumber_Empty d_Empty y_Empty i_NoNumber_Empty
  is_NoNumber_TooMany:=by rw[q_NoNumber,q_TooMany];exact ZH ne_NoNumber_TooMany d_TooMany y_TooMany i_NoNumber_TooMany
  is_NoNumber_NoTree:=by rw[q_NoNumber,q_NoTree];exact ZH ne_NoNumber_NoTree d_NoTree y_NoTree i_NoNumber_NoTree
  is_NoNumber_NoTelling:=by rw[q_NoNumber,q_NoTelling];exact ZH ne_NoNumber_NoTelling d_NoTelling y_NoTelling i_NoNumber_NoTelling
  is_NoNumber_NoPlace:=by rw[q_NoNumber,q_NoPlace];exact ZH ne_NoNumber_NoPlace d_NoPlace y_NoPlace i_NoNumber_NoPlace
  is_NoNumber_NoNumber:=by rw[q_NoNumber];exact Zid
  is_NoNumber_NoPast:=by rw[q_NoNumber,q_NoPast];exact ZH ne_NoNumber_NoPast d_NoPast y_NoPast i_NoNumber_NoPast
  is_NoNumber_NoText:=by rw[q_NoNumber,q_NoText];exact ZH ne_NoNumber_NoText d_NoText y_NoText i_NoNumber_NoText
  is_NoNumber_NoLine:=by rw[q_NoNumber,q_NoLine];exact ZH ne_NoNumber_NoLine d_NoLine y_NoLine i_NoNumber_NoLine
  is_NoNumber_V:=by rw[q_NoNumber];exact Zo6 i_NoNumber_V
  c_Filling:=by rw[q_Filling];exact mg_of X G n_Filling
  cl_Filling:=by rw[q_Filling];exact⟨pg_Filling,hd_Filling,po_Filling,sa_Filling⟩
  n_Filling_tree:=by rw[q_Filling];exact na_Filling_tree
  n_Filling_most:=by rw[q_Filling];exact na_Filling_most
  n_Filling_young:=by rw[q_Filling];exact na_Filling_young
  n_Filling_spans:=by rw[q_Filling];exact na_Filling_spans
  n_Filling_outsides:=by rw[q_Filling];exact na_Filling_outsides
  n_Filling_row:=by rw[q_Filling];exact na_Filling_row
  m_MOST_PLACES:=by rw[q_MOST_PLACES];exact mg_of X G m_MOST_PLACES
  m_MOST_FILLED:=by rw[q_MOST_FILLED];exact mg_of X G m_MOST_FILLED
 }
 subst Zc3
 have ZaB:=ZrD (mg_of X G Zca) Zcb rfl Zc4 Zc5
 have ZkJ:LamD K mg "from_below" ZdL:=⟨ZbG,ZaB.2,by rw[ZaB.1];exact ZbI⟩
 have ZlG:=ZC (st:=s_settle) ZiI ZiJ Zgr
 have Zqh:=ZlG.binds (ps:=["elders","spine","place","keep"]) λ_ _ _ _ _ _ us hl=>by obtain⟨x0,u0,rfl,h0⟩:=le1 hl;obtain⟨x1,u1,rfl,h1⟩:=le1 h0;obtain⟨x2,u2,rfl,h2⟩:=le1 h1;obtain⟨x3,u3,rfl,h3⟩:=le1 h2;obtain rfl:=le0 h3;exact rfl
 have ZjZ:=ZC (st:=s_tree_of) Zg4 Zg5 Zfr
 have Zoc:=ZjZ.binds (ps:=["row"]) λ_ _ _ _ _ _ us hl=>by obtain⟨x0,u0,rfl,h0⟩:=le1 hl;obtain rfl:=le0 h0;exact rfl
 have ZlH:=ZC (st:=s_way_up) ZiL ZiM Zgs
 have Zqi:=ZlH.binds (ps:=["tree","place"]) λ_ _ _ _ _ _ us hl=>by obtain⟨x0,u0,rfl,h0⟩:=le1 hl;obtain⟨x1,u1,rfl,h1⟩:=le1 h0;obtain rfl:=le0 h1;exact rfl
 have Zj0:=ZC (st:=s_is_tree) Zg7 Zg8 Zfs
 have Zod:=Zj0.binds (ps:=["tree"]) λ_ _ _ _ _ _ us hl=>by obtain⟨x0,u0,rfl,h0⟩:=le1 hl;obtain rfl:=le0 h0;exact rfl
 have Zhv:=ZC (st:=s_need_tree) ZeB ZeC ZcI
 have ZlI:=Zhv.binds (ps:=["tree"]) λ_ _ _ _ _ _ us hl=>by obtain⟨x0,u0,rfl,h0⟩:=le1 hl;obtain rfl:=le0 h0;exact rfl
 have Zhw:=ZC (st:=Zba) ZeE ZeF ZcJ
 have ZlJ:=Zhw.binds (ps:=["tree"]) λ_ _ _ _ _ _ us hl=>by obtain⟨x0,u0,rfl,h0⟩:=le1 hl;obtain rfl:=le0 h0;exact rfl
 have ZiX:=ZC (st:=s_young_of) ZfP ZfQ ZdK
 have ZmB:=ZiX.binds (ps:=["tree"]) λ_ _ _ _ _ _ us hl=>by obtain⟨x0,u0,rfl,h0⟩:=le1 hl;obtain rfl:=le0 h0;exact rfl
 have Zgy:=ZC (st:=s_from_below) Zcb ZdM Zcc
 have ZkK:=Zgy.binds (ps:=["tree"]) λ_ _ _ _ _ _ us hl=>by obtain⟨x0,u0,rfl,h0⟩:=le1 hl;obtain rfl:=le0 h0;exact rfl
 have Zfb:=ZC (st:=s_running_sums) Zcu Zcv Zbs
 have ZiY:=Zfb.binds (ps:=["numbers"]) λ_ _ _ _ _ _ us hl=>by obtain⟨x0,u0,rfl,h0⟩:=le1 hl;obtain rfl:=le0 h0;exact rfl
 have ZiZ:=ZC (st:=ZbA) ZfS ZfT ZdN
 have ZmC:=ZiZ.binds (ps:=["tree"]) λ_ _ _ _ _ _ us hl=>by obtain⟨x0,u0,rfl,h0⟩:=le1 hl;obtain rfl:=le0 h0;exact rfl
 have Zqj:=ZC (st:=ZgW) Zmz ZmA Zkz
 have Zud:=Zqj.binds (ps:=["ways","number"]) λ_ _ _ _ _ _ us hl=>by obtain⟨x0,u0,rfl,h0⟩:=le1 hl;obtain⟨x1,u1,rfl,h1⟩:=le1 h0;obtain rfl:=le0 h1;exact rfl
 have Zi0:=ZC (st:=s_need_few) ZfV ZfW ZdO
 have ZmD:=Zi0.binds (ps:=["many","m"]) λ_ _ _ _ _ _ us hl=>by obtain⟨x0,u0,rfl,h0⟩:=le1 hl;obtain⟨x1,u1,rfl,h1⟩:=le1 h0;obtain rfl:=le0 h1;exact rfl
 have Zhx:=ZC (st:=s_span_ways) ZeI ZeJ ZcK
 have ZlK:=Zhx.binds (ps:=["tree","young","m"]) λ_ _ _ _ _ _ us hl=>by obtain⟨x0,u0,rfl,h0⟩:=le1 hl;obtain⟨x1,u1,rfl,h1⟩:=le1 h0;obtain⟨x2,u2,rfl,h2⟩:=le1 h1;obtain rfl:=le0 h2;exact rfl
 have F_Filling___init__:=ZC (st:=s_Filling___init__) l_Filling___init__ c_Filling___init__ k_Filling___init__
 have B_Filling___init__:=F_Filling___init__.binds (ps:=["self","tree","m"]) λ_ _ _ _ _ _ us hl=>by obtain⟨x0,u0,rfl,h0⟩:=le1 hl;obtain⟨x1,u1,rfl,h1⟩:=le1 h0;obtain⟨x2,u2,rfl,h2⟩:=le1 h1;obtain rfl:=le0 h2;exact rfl
 have F_Filling_how_many_rows:=ZC (st:=s_Filling_how_many_rows) l_Filling_how_many_rows c_Filling_how_many_rows k_Filling_how_many_rows
 have B_Filling_how_many_rows:=F_Filling_how_many_rows.binds (ps:=["self"]) λ_ _ _ _ _ _ us hl=>by obtain⟨x0,u0,rfl,h0⟩:=le1 hl;obtain rfl:=le0 h0;exact rfl
 have F_Filling_outside_ways:=ZC (st:=ZJ) l_Filling_outside_ways c_Filling_outside_ways k_Filling_outside_ways
 have B_Filling_outside_ways:=F_Filling_outside_ways.binds (ps:=["self","place"]) λ_ _ _ _ _ _ us hl=>by obtain⟨x0,u0,rfl,h0⟩:=le1 hl;obtain⟨x1,u1,rfl,h1⟩:=le1 h0;obtain rfl:=le0 h1;exact rfl
 have F_Filling_outside_by_elder:=ZC (st:=ZD) l_Filling_outside_by_elder c_Filling_outside_by_elder k_Filling_outside_by_elder
 have B_Filling_outside_by_elder:=F_Filling_outside_by_elder.binds (ps:=["self","place","elder"]) λ_ _ _ _ _ _ us hl=>by obtain⟨x0,u0,rfl,h0⟩:=le1 hl;obtain⟨x1,u1,rfl,h1⟩:=le1 h0;obtain⟨x2,u2,rfl,h2⟩:=le1 h1;obtain rfl:=le0 h2;exact rfl
 have F_Filling_onward_ways:=ZC (st:=ZM) l_Filling_onward_ways c_Filling_onward_ways k_Filling_onward_ways
 have B_Filling_onward_ways:=F_Filling_onward_ways.binds (ps:=["self","place"]) λ_ _ _ _ _ _ us hl=>by obtain⟨x0,u0,rfl,h0⟩:=le1 hl;obtain⟨x1,u1,rfl,h1⟩:=le1 h0;obtain rfl:=le0 h1;exact rfl
 have F_Filling_next_ways:=ZC (st:=ZU) l_Filling_next_ways c_Filling_next_ways k_Filling_next_ways
 have B_Filling_next_ways:=F_Filling_next_ways.binds (ps:=["self"]) λ_ _ _ _ _ _ us hl=>by obtain⟨x0,u0,rfl,h0⟩:=le1 hl;obtain rfl:=le0 h0;exact rfl
 have Zhy:=ZC (st:=s_many_rows) ZeL ZeM ZcL
 have ZlL:=Zhy.binds (ps:=["tree","m"]) λ_ _ _ _ _ _ us hl=>by obtain⟨x0,u0,rfl,h0⟩:=le1 hl;obtain⟨x1,u1,rfl,h1⟩:=le1 h0;obtain rfl:=le0 h1;exact rfl
 have ZlM:=ZC (st:=Zdm) ZiR ZiS Zgt
 have Zqk:=ZlM.binds (ps:=["tree","m","number"]) λ_ _ _ _ _ _ us hl=>by obtain⟨x0,u0,rfl,h0⟩:=le1 hl;obtain⟨x1,u1,rfl,h1⟩:=le1 h0;obtain⟨x2,u2,rfl,h2⟩:=le1 h1;obtain rfl:=le0 h2;exact rfl
 have Zd4:=ZC (st:=Zab) Zb1 Zb2 Za4
 have ZhQ:=Zd4.binds (ps:=["row","m"]) λ_ _ _ _ _ _ us hl=>by obtain⟨x0,u0,rfl,h0⟩:=le1 hl;obtain⟨x1,u1,rfl,h1⟩:=le1 h0;obtain rfl:=le0 h1;exact rfl
 have ZfB:=ZC (st:=ZaA) Zc9 Zda ZbJ
 have Zjp:=ZfB.binds (ps:=["tree"]) λ_ _ _ _ _ _ us hl=>by obtain⟨x0,u0,rfl,h0⟩:=le1 hl;obtain rfl:=le0 h0;exact rfl
 have Zhz:=ZC (st:=s__law_deal) ZeO ZeP ZcM
 have ZlN:=Zhz.binds (ps:=["cell"]) λ_ _ _ _ _ _ us hl=>by obtain⟨x0,u0,rfl,h0⟩:=le1 hl;obtain rfl:=le0 h0;exact rfl
 have ZhA:=ZC (st:=s__law_take) ZeR ZeS ZcN
 have ZlO:=ZhA.binds (ps:=["pot","many"]) λ_ _ _ _ _ _ us hl=>by obtain⟨x0,u0,rfl,h0⟩:=le1 hl;obtain⟨x1,u1,rfl,h1⟩:=le1 h0;obtain rfl:=le0 h1;exact rfl
 have ZfC:=ZC (st:=s__law_unlike) Zdc Zdd ZbK
 have Zjq:=ZfC.binds (ps:=["pot","many"]) λ_ _ _ _ _ _ us hl=>by obtain⟨x0,u0,rfl,h0⟩:=le1 hl;obtain⟨x1,u1,rfl,h1⟩:=le1 h0;obtain rfl:=le0 h1;exact rfl
 have Zi1:=ZC (st:=s__law_row) ZfY ZfZ ZdP
 have ZmE:=Zi1.binds (ps:=["pot","most"]) λ_ _ _ _ _ _ us hl=>by obtain⟨x0,u0,rfl,h0⟩:=le1 hl;obtain⟨x1,u1,rfl,h1⟩:=le1 h0;obtain rfl:=le0 h1;exact rfl
 have ZhB:=ZC (st:=s__law_tree) ZeU ZeV ZcO
 have ZlP:=ZhB.binds (ps:=["row"]) λ_ _ _ _ _ _ us hl=>by obtain⟨x0,u0,rfl,h0⟩:=le1 hl;obtain rfl:=le0 h0;exact rfl
 have ZhC:=ZC (st:=Zbb) ZeX ZeY ZcP
 have ZlQ:=ZhC.binds (ps:=["tree","place"]) λ_ _ _ _ _ _ us hl=>by obtain⟨x0,u0,rfl,h0⟩:=le1 hl;obtain⟨x1,u1,rfl,h1⟩:=le1 h0;obtain rfl:=le0 h1;exact rfl
 have ZhD:=ZC (st:=Zbc) Ze0 Ze1 ZcQ
 have ZlR:=ZhD.binds (ps:=["tree"]) λ_ _ _ _ _ _ us hl=>by obtain⟨x0,u0,rfl,h0⟩:=le1 hl;obtain rfl:=le0 h0;exact rfl
 have Zgz:=ZC (st:=s__law_whole) ZdR ZdS Zcd
 have ZkL:=Zgz.binds (ps:=["thing"]) λ_ _ _ _ _ _ us hl=>by obtain⟨x0,u0,rfl,h0⟩:=le1 hl;obtain rfl:=le0 h0;exact rfl
 have Zfc:=ZC (st:=Zal) Zcx Zcy Zbt
 have Zi2:=Zfc.binds (ps:=["thing"]) λ_ _ _ _ _ _ us hl=>by obtain⟨x0,u0,rfl,h0⟩:=le1 hl;obtain rfl:=le0 h0;exact rfl
 have ZgA:=ZC (st:=ZaQ) ZdU ZdV Zce
 have ZkM:=ZgA.binds (ps:=["e","at"]) λ_ _ _ _ _ _ us hl=>by obtain⟨x0,u0,rfl,h0⟩:=le1 hl;obtain⟨x1,u1,rfl,h1⟩:=le1 h0;obtain rfl:=le0 h1;exact rfl
 have ZcE:=ZC (st:=s__law_counted) Zcz ZcA ZaJ
 have Zfd:=ZcE.binds (ps:=["tree","place","least","m"]) λ_ _ _ _ _ _ us hl=>by obtain⟨x0,u0,rfl,h0⟩:=le1 hl;obtain⟨x1,u1,rfl,h1⟩:=le1 h0;obtain⟨x2,u2,rfl,h2⟩:=le1 h1;obtain⟨x3,u3,rfl,h3⟩:=le1 h2;obtain rfl:=le0 h3;exact rfl
 have ZhE:=ZC (st:=s__law_many) Ze5 Ze6 ZcR
 have ZlS:=ZhE.binds (ps:=["tree","m"]) λ_ _ _ _ _ _ us hl=>by obtain⟨x0,u0,rfl,h0⟩:=le1 hl;obtain⟨x1,u1,rfl,h1⟩:=le1 h0;obtain rfl:=le0 h1;exact rfl
 have Zfe:=ZC (st:=Zam) ZcC ZcD Zbv
 have Zi3:=Zfe.binds (ps:=["tree"]) λ_ _ _ _ _ _ us hl=>by obtain⟨x0,u0,rfl,h0⟩:=le1 hl;obtain rfl:=le0 h0;exact rfl
 have ZhF:=ZC (st:=Zbd) Ze9 Zfa ZcS
 have ZlT:=ZhF.binds (ps:=["pot","tree"]) λ_ _ _ _ _ _ us hl=>by obtain⟨x0,u0,rfl,h0⟩:=le1 hl;obtain⟨x1,u1,rfl,h1⟩:=le1 h0;obtain rfl:=le0 h1;exact rfl
 have ZgB:=ZC (st:=ZaR) ZdX ZdY Zcf
 have ZkN:=ZgB.binds (ps:=["way","one","m","number"]) λ_ _ _ _ _ _ us hl=>by obtain⟨x0,u0,rfl,h0⟩:=le1 hl;obtain⟨x1,u1,rfl,h1⟩:=le1 h0;obtain⟨x2,u2,rfl,h2⟩:=le1 h1;obtain⟨x3,u3,rfl,h3⟩:=le1 h2;obtain rfl:=le0 h3;exact rfl
 have Zi4:=ZC (st:=ZbB) Zf1 Zf2 ZdZ
 have ZmF:=Zi4.binds (ps:=["way","one","m","number"]) λ_ _ _ _ _ _ us hl=>by obtain⟨x0,u0,rfl,h0⟩:=le1 hl;obtain⟨x1,u1,rfl,h1⟩:=le1 h0;obtain⟨x2,u2,rfl,h2⟩:=le1 h1;obtain⟨x3,u3,rfl,h3⟩:=le1 h2;obtain rfl:=le0 h3;exact rfl
 have ZgC:=ZC (st:=s__law_right) Zd1 Zd2 Zcg
 have ZkO:=ZgC.binds (ps:=["way","one","m","number"]) λ_ _ _ _ _ _ us hl=>by obtain⟨x0,u0,rfl,h0⟩:=le1 hl;obtain⟨x1,u1,rfl,h1⟩:=le1 h0;obtain⟨x2,u2,rfl,h2⟩:=le1 h1;obtain⟨x3,u3,rfl,h3⟩:=le1 h2;obtain rfl:=le0 h3;exact rfl
 have ZuC:=ZC (st:=s_law) Zqd Zqf Zqg
 refine⟨fnOf "law" "law" (defArgs s_law) (defBody s_law) (defScope s_law) .none Zt8 Zt9 Zua Zub Zqe Zuc,λs v=>.of_eq rfl,?tb,?nd,λbase _ _ B=>?_⟩
 case tb =>
  intro p hp
  unfold tabsL at hp
  simp only[Yl,List.not_mem_nil,or_false]at hp
  subst hp
  ·exact⟨by rw[ZaB.1];exact Zc7,by rw[ZaB.1];exact Zc6,ZbG,by rw[ZaB.1];exact ZbI⟩
 case nd =>
  unfold tabsL
  simp only[YF,List.map_nil]
  rw[ZaB.1]
  exact nd
 have Zey:Callee l.prog w K mg base "_law_deal" 1 ["cell"] (sp__law_deal K mg):=⟨_,_,mg_of X G ZeN,ZcM,ZlN,ok__law_deal Zhz T⟩
 have Zq:Callee l.prog w K mg base "_law_take" 1 ["pot","many"] (sp__law_take K mg):=⟨_,_,mg_of X G ZeQ,ZcN,ZlO,ok__law_take ZhA T⟩
 have Zc1:Callee l.prog w K mg base "_law_unlike" 2 ["pot","many"] (sp__law_unlike K mg):=⟨_,_,mg_of X G Zdb,ZbK,Zjq,ok__law_unlike ZfC Zq T⟩
 have ZfN:Callee l.prog w K mg base "_law_row" 3 ["pot","most"] (sp__law_row K mg):=⟨_,_,mg_of X G ZfX,ZdP,ZmE,ok__law_row Zi1 Zq Zc1 T⟩
 have Zbg:Callee l.prog w K mg base "_law_tree" 1 ["row"] (sp__law_tree K mg):=⟨_,_,mg_of X G ZeT,ZcO,ZlP,ok__law_tree ZhB T⟩
 have Zez:Callee l.prog w K mg base "_law_bent" 2 ["pot","tree"] (ZdE K mg):=⟨_,_,mg_of X G Ze8,ZcS,ZlT,Zkw ZhF Zq T⟩
 have ZaT:Callee l.prog w K mg base "_law_whole" 1 ["thing"] (sp__law_whole K mg):=⟨_,_,mg_of X G ZdQ,Zcd,ZkL,ok__law_whole Zgz T⟩
 have Zcs:Callee l.prog w K mg base "_law_numbers" 2 ["thing"] (ZbY K mg):=⟨_,_,mg_of X G Zcw,Zbt,Zi2,ZhL Zfc ZaT T⟩
 have ZdI:Callee l.prog w K mg base "_law_alone" 1 ["e","at"] (ZcZ K mg):=⟨_,_,mg_of X G ZdT,Zce,ZkM,Zjj ZgA T⟩
 have ZiF:Callee l.prog w K mg base "settle" 1 ["elders","spine","place","keep"] (sp_settle K mg):=⟨_,_,mg_of X G ZiH,Zgr,Zqh,ok_settle ZlG T⟩
 have Zci:Callee l.prog w K mg base "tree_of" 2 ["row"] (sp_tree_of K mg):=⟨_,_,mg_of X G Zg3,Zfr,Zoc,ok_tree_of ZjZ ZiF T⟩
 have Zbq:Callee l.prog w K mg base "way_up" 1 ["tree","place"] (sp_way_up K mg):=⟨_,_,mg_of X G ZiK,Zgs,Zqi,ok_way_up ZlH T⟩
 have Zg2:Callee l.prog w K mg base "is_tree" 3 ["tree"] (sp_is_tree K mg):=⟨_,_,mg_of X G Zg6,Zfs,Zod,ok_is_tree Zj0 Zci Zbq T⟩
 have Zaf:Callee l.prog w K mg base "need_tree" 4 ["tree"] (sp_need_tree K mg):=⟨_,_,mg_of X G ZeA,ZcI,ZlI,ok_need_tree Zhv Zg2 T⟩
 have Zau:Callee l.prog w K mg base "need_few" 1 ["many","m"] (sp_need_few K mg):=⟨_,_,mg_of X G ZfU,ZdO,ZmD,ok_need_few Zi0 T⟩
 have ZfL:Callee l.prog w K mg base "young_of" 1 ["tree"] (sp_young_of K mg):=⟨_,_,mg_of X G ZfO,ZdK,ZmB,ok_young_of ZiX T⟩
 have ZdH:Callee l.prog w K mg base "from_below" 5 ["tree"] (sp_from_below K mg):=⟨_,_,mg_of X G Zca,Zcc,ZkK,ok_from_below Zgy Zbq ZkJ B T⟩
 have Zao:Callee l.prog w K mg base "running_sums" 1 ["numbers"] (sp_running_sums K mg):=⟨_,_,mg_of X G Zct,Zbs,ZiY,ok_running_sums Zfb T⟩
 have Zet:Callee l.prog w K mg base "span_ways" 6 ["tree","young","m"] (sp_span_ways K mg):=⟨_,_,mg_of X G ZeH,ZcK,ZlK,ok_span_ways Zhx ZdH Zao T⟩
 have GI_Filling:Zgm l.prog w K mg base "Filling" 7 ["self","tree","m"] (sp_Filling___init__ K mg):=⟨_,_,by rw[q_Filling];exact⟨mk_Filling,a_Filling___init__,i_Filling___init__,kc_Filling⟩,by rw[q_Filling];exact mg_of X G n_Filling,B_Filling___init__,ok_Filling___init__ F_Filling___init__ ZfL Zet T⟩
 have GM_Filling_how_many_rows:Zah l.prog w K mg base "Filling" "how_many_rows" 1 ["self"] (sp_Filling_how_many_rows K mg):=⟨_,_,T.cl_Filling,by rw[q_Filling];exact⟨a_Filling_how_many_rows,i_Filling_how_many_rows,k_Filling_how_many_rows⟩,B_Filling_how_many_rows,ok_Filling_how_many_rows F_Filling_how_many_rows T⟩
 have Zew:Callee l.prog w K mg base "many_rows" 9 ["tree","m"] (sp_many_rows K mg):=⟨_,_,mg_of X G ZeK,ZcL,ZlL,ok_many_rows Zhy Zaf Zau GI_Filling GM_Filling_how_many_rows T⟩
 have Zmv:Callee l.prog w K mg base "pick" 1 ["ways","number"] (Zkq K mg):=⟨_,_,mg_of X G Zmy,Zkz,Zud,ZrL Zqj T⟩
 have R_fam:∀n,Zah l.prog w K mg base "Filling" "outside_ways" (2+n) ["self","place"] (ZV n K mg)/\Zah l.prog w K mg base "Filling" "outside_by_elder" (2+n) ["self","place","elder"] (Z0 n K mg)/\Zah l.prog w K mg base "Filling" "onward_ways" (2+n) ["self","place"] (ZY n K mg):=λn=>by
  induction n with
  |zero=>exact⟨⟨_,_,T.cl_Filling,by rw[q_Filling];exact⟨a_Filling_outside_ways,i_Filling_outside_ways,k_Filling_outside_ways⟩,B_Filling_outside_ways,F_Filling_outside_ways.okX (k:=1) Zbf (λvs H Q E h=>False.elim h) (λcdv A outer s H vs Q E hr h=>False.elim h)⟩,⟨_,_,T.cl_Filling,by rw[q_Filling];exact⟨a_Filling_outside_by_elder,i_Filling_outside_by_elder,k_Filling_outside_by_elder⟩,B_Filling_outside_by_elder,F_Filling_outside_by_elder.okX (k:=1) Z6 (λvs H Q E h=>False.elim h) (λcdv A outer s H vs Q E hr h=>False.elim h)⟩,⟨_,_,T.cl_Filling,by rw[q_Filling];exact⟨a_Filling_onward_ways,i_Filling_onward_ways,k_Filling_onward_ways⟩,B_Filling_onward_ways,F_Filling_onward_ways.okX (k:=1) Zat (λvs H Q E h=>False.elim h) (λcdv A outer s H vs Q E hr h=>False.elim h)⟩⟩
  |succ n ih =>
   obtain⟨ih_Filling_outside_ways,ih_Filling_outside_by_elder,ih_Filling_onward_ways⟩:=ih
   exact⟨⟨_,_,T.cl_Filling,by rw[q_Filling];exact⟨a_Filling_outside_ways,i_Filling_outside_ways,k_Filling_outside_ways⟩,B_Filling_outside_ways,Zdq F_Filling_outside_ways ih_Filling_outside_by_elder T⟩,⟨_,_,T.cl_Filling,by rw[q_Filling];exact⟨a_Filling_outside_by_elder,i_Filling_outside_by_elder,k_Filling_outside_by_elder⟩,B_Filling_outside_by_elder,Zb9 F_Filling_outside_by_elder Zao ih_Filling_outside_ways ih_Filling_onward_ways T⟩,⟨_,_,T.cl_Filling,by rw[q_Filling];exact⟨a_Filling_onward_ways,i_Filling_onward_ways,k_Filling_onward_ways⟩,B_Filling_onward_ways,ZdG F_Filling_onward_ways ih_Filling_outside_ways T⟩⟩
 obtain⟨GM_Filling_outside_ways,GM_Filling_outside_by_elder,GM_Filling_onward_ways⟩:=R_fam 40
 have GM_Filling_next_ways:Zah l.prog w K mg base "Filling" "next_ways" 43 ["self"] (Zad K mg):=⟨_,_,T.cl_Filling,by rw[q_Filling];exact⟨a_Filling_next_ways,i_Filling_next_ways,k_Filling_next_ways⟩,B_Filling_next_ways,Zer F_Filling_next_ways GM_Filling_onward_ways T⟩
 have ZiG:Callee l.prog w K mg base "row_at" 44 ["tree","m","number"] (Zg0 K mg):=⟨_,_,mg_of X G ZiQ,Zgt,Zqk,ZnZ ZlM Zaf Zmv Zau GI_Filling GM_Filling_how_many_rows GM_Filling_next_ways T⟩
 have ZbZ:Callee l.prog w K mg base "number_of_row" 44 ["row","m"] (ZbD K mg):=⟨_,_,mg_of X G Zb0,Za4,ZhQ,Zg1 Zd4 Zci Zau GI_Filling GM_Filling_next_ways T⟩
 have Zes:Callee l.prog w K mg base "fences_of" 2 ["tree"] (sp_fences_of K mg):=⟨_,_,mg_of X G ZeD,ZcJ,ZlJ,Zku Zhw Zbq T⟩
 have ZfK:Callee l.prog w K mg base "spans_of" 5 ["tree"] (sp_spans_of K mg):=⟨_,_,mg_of X G ZfR,ZdN,ZmC,Zlq ZiZ Zaf Zes T⟩
 have Zc2:Callee l.prog w K mg base "many_orders" 6 ["tree"] (Zcq K mg):=⟨_,_,mg_of X G Zc8,ZbJ,Zjp,ZiE ZfB ZfK T⟩
 have ZdJ:Callee l.prog w K mg base "_law_heard" 45 ["way","one","m","number"] (Zc0 K mg):=⟨_,_,mg_of X G ZdW,Zcf,ZkN,Zji ZgB Zew ZiG ZbZ Zc2 T⟩
 have Zi5:∀n,Callee l.prog w K mg base "_law_counted" (1+n) ["tree","place","least","m"] (sp__law_counted_R n K mg):=λn=>by
  induction n with
  |zero=>exact⟨_,_,mg_of X G Zbu,ZaJ,Zfd,ZcE.okX (k:=0) sc__law_counted (λvs H Q E h=>False.elim h) (λcdv A outer s H vs Q E hr h=>False.elim h)⟩
  |succ n ih=>exact⟨_,_,mg_of X G Zbu,ZaJ,Zfd,ok__law_counted ZcE ih T⟩
 have Zap:Callee l.prog w K mg base "_law_counted" 14 ["tree","place","least","m"] (sp__law_counted K mg):=Zi5 13
 have Zex:Callee l.prog w K mg base "_law_many" 15 ["tree","m"] (sp__law_many K mg):=⟨_,_,mg_of X G Ze4,ZcR,ZlS,ok__law_many ZhE Zap T⟩
 have Zeu:Callee l.prog w K mg base "_law_over" 1 ["tree","place"] (ZdC K mg):=⟨_,_,mg_of X G ZeW,ZcP,ZlQ,Zkt ZhC T⟩
 have Zev:Callee l.prog w K mg base "_law_flat" 2 ["tree"] (ZdF K mg):=⟨_,_,mg_of X G ZeZ,ZcQ,ZlR,Zkv ZhD Zeu T⟩
 have Zcr:Callee l.prog w K mg base "_law_is_tree" 3 ["tree"] (ZbX K mg):=⟨_,_,mg_of X G ZcB,Zbv,Zi3,ZhK Zfe Zbg Zev T⟩
 have ZfM:Callee l.prog w K mg base "_law_due" 16 ["way","one","m","number"] (Zeq K mg):=⟨_,_,mg_of X G Zf0,ZdZ,ZmF,Zlx Zi4 Zex Zcr T⟩
 have Zbr:Callee l.prog w K mg base "_law_right" 46 ["way","one","m","number"] (sp__law_right K mg):=⟨_,_,mg_of X G Zd0,Zcg,ZkO,ok__law_right ZgC ZaT Zcs ZdI ZdJ ZfM T⟩
 exact ok_law ZuC Zey Zq ZfN Zbg Zez Zbr T
theorem walk {l:PySem.W.OpenLaw}{q:Program}{loose:List Str}{XP:(Str->Option Value)->Heap->Prop}{YP:World->Heap->Prop}{d:DefRec}{K:Params->PySem.W.Frag}{ts:List Addr} (hn:l.most=some 63) (hdf:d.params.defaults=[])
  (hY:∀(w:World) (h:Heap),YP w h->(K w.params).In h) (hY2:∀(w:World) (h:Heap),YP w h->∀P∈ts,h.get? P=some (PySem.W.tabObj #[]))
  (F:∀(w:World) (mg:Str->Option Value) (fa:Addr) (h:Heap),(K w.params).In h->h.Ns mainGlobals mg->mg d.name=some (.ref fa) ->
   ∃fd:FuncData,(∀(s:Shared) (u:Value),BindsTo s fd ⟨[u],[]⟩ [("script",u)])/\(∀p∈tabsL (K w.params) mg,p.1∈ts/\(K w.params).lookup p.1=none/\∃c,PySem.W.codeHdIn (K w.params) c p.1=true)/\((tabsL (K w.params) mg).map (·.1)).Nodup/\∀base:Heap,(K w.params).In base->base.Ns mainGlobals mg->BM mg base->FnOk l.prog w (K w.params) mg base (CXE l.prog w) 47 fa fd ["script"] (spLaw (K w.params) mg)) :
  PySem.W.WalkO q loose XP YP l.row.toRowW d [] (λf vs=>PySem.call f vs) :=
 L2.Zpz (n:=63) (k:=47) (x:="script") (ts:=ts) (tabs:=tabsL) (CX:=λw=>CXE l.prog w) (sp:=λw mg=>spLaw (K w.params) mg) hn (by decide) hdf ⟨rfl,by decide,by decide⟩ hY hY2 F (λ_ _ _ a ns hl hS hT=>⟨a,ns,rfl,hS,hl,hT,λ_=>rfl⟩) λ_ _ _ _ _ ⟨_,_,_,_,_,_,_,z⟩=>z
end K34
def PySem.W.Fast.tw15813274627513343659:Unit:=()
def PySem.W.Fast.tw1050357940268551615:Unit:=()
def PySem.W.Fast.tw9180030830070083563:Unit:=()
def PySem.W.Fast.tw7316463565027533029:Unit:=()
def PySem.W.Fast.tw6545705315330613397:Unit:=()
def PySem.W.Fast.tw3277913236918577442:Unit:=()
def PySem.W.Fast.tw18261288870699026685:Unit:=()
def PySem.W.Fast.tw3652181697977144222:Unit:=()
def PySem.W.Fast.tw8449675232329061699:Unit:=()
def PySem.W.Fast.tw6912014922382214278:Unit:=()
def PySem.W.Fast.tw4363687377842283466:Unit:=()
def PySem.W.Fast.tw6223922778780134237:Unit:=()
def PySem.W.Fast.tw430534430012181098:Unit:=()
def PySem.W.Fast.tw5932607661739577603:Unit:=()
def PySem.W.Fast.tw17722972625657570742:Unit:=()
def PySem.W.Fast.tw6023108800700623092:Unit:=()
def PySem.W.Fast.tw14443376313763622749:Unit:=()
def PySem.W.Fast.tw314787409385585757:Unit:=()
def PySem.W.Fast.tw1106859688110816929:Unit:=()
def PySem.W.Fast.tw10625182981614753254:Unit:=()
def PySem.W.Fast.tw11838137058789625591:Unit:=()
def PySem.W.Fast.tw10745559923995721944:Unit:=()
def PySem.W.Fast.tw13877687768408539973:Unit:=()
def PySem.W.Fast.tw3709754544382292598:Unit:=()
def PySem.W.Fast.tw4987276863748255767:Unit:=()
def PySem.W.Fast.tw16224398046709264954:Unit:=()
def PySem.W.Fast.tw15286782967930083186:Unit:=()
def PySem.W.Fast.tw5925901301954799448:Unit:=()
def PySem.W.Fast.tw5833361728127279842:Unit:=()
def PySem.W.Fast.tw9607709098167320465:Unit:=()
def PySem.W.Fast.tw17979258424653353148:Unit:=()
def PySem.W.Fast.tw17176914149449142531:Unit:=()
def PySem.W.Fast.tw5928840505489316416:Unit:=()
def PySem.W.Fast.tw17054710185983819431:Unit:=()
def PySem.W.Fast.tw8114225306097657779:Unit:=()
def PySem.W.Fast.tw955517059444567227:Unit:=()
def PySem.W.Fast.tw18354201973672253788:Unit:=()
def PySem.W.Fast.tw15363614799768134616:Unit:=()
def PySem.W.Fast.tw6342766513264798893:Unit:=()
def PySem.W.Fast.tw12243242022420526427:Unit:=()
def PySem.W.Fast.tw13260122998834217162:Unit:=()
def PySem.W.Fast.tw17262443942114538236:Unit:=()
def PySem.W.Fast.tw4052503677326601979:Unit:=()
def PySem.W.Fast.tw13981320076970204148:Unit:=()
def PySem.W.Fast.tw12551737963115132041:Unit:=()
def PySem.W.Fast.tw6178386704000403034:Unit:=()
def PySem.W.Fast.tw10667214923241005598:Unit:=()
def PySem.W.Fast.tw13981264774835788829:Unit:=()
def PySem.W.Fast.tw15955030060415007632:Unit:=()
def PySem.W.Fast.tw12154979406042836224:Unit:=()
def PySem.W.Fast.tw7406859427283958535:Unit:=()
def PySem.W.Fast.tw4150501258965306265:Unit:=()
def PySem.W.Fast.tw4468645201550329873:Unit:=()
def PySem.W.Fast.tw7128223791750732298:Unit:=()
def PySem.W.Fast.tw8578832024600094077:Unit:=()
def PySem.W.Fast.tw4605064756063547694:Unit:=()
def PySem.W.Fast.tw7389872772450099544:Unit:=()
def PySem.W.Fast.tw3611559700187045570:Unit:=()
def PySem.W.Fast.tw1643807250843857625:Unit:=()
def PySem.W.Fast.tw6013588366642876788:Unit:=()
def PySem.W.Fast.tw15778555128218424047:Unit:=()
def PySem.W.Fast.tw2290849138239033761:Unit:=()
def PySem.W.Fast.tw16990282444479936533:Unit:=()
def PySem.W.Fast.tw4334185974031762189:Unit:=()
def PySem.W.Fast.tw11994378267001816658:Unit:=()
def PySem.W.Fast.tw15962124400347535388:Unit:=()
def PySem.W.Fast.tw388241112064384653:Unit:=()
def PySem.W.Fast.tw6038195001073835512:Unit:=()
def PySem.W.Fast.tw3195871378162775490:Unit:=()
def PySem.W.Fast.tw3648881912881483931:Unit:=()
def PySem.W.Fast.tw11459741225613954612:Unit:=()
def PySem.W.Fast.tw8794224879923412460:Unit:=()
def PySem.W.Fast.tw4599988184756788850:Unit:=()
def PySem.W.Fast.tw139214093193426360:Unit:=()
def PySem.W.Fast.tw14346065978739704581:Unit:=()
def PySem.W.Fast.tw10526939004045295660:Unit:=()
def PySem.W.Fast.tw14883952842892836874:Unit:=()
def PySem.W.Fast.tw1291690758062938180:Unit:=()
def PySem.W.Fast.tw2196853771140738744:Unit:=()
def PySem.W.Fast.tw672306888476179181:Unit:=()
def PySem.W.Fast.tw2193556466044600007:Unit:=()
def PySem.W.Fast.tw11371643522712212954:Unit:=()
def PySem.W.Fast.tw9764871157403472673:Unit:=()
def PySem.W.Fast.tw12357997351058639100:Unit:=()
def PySem.W.Fast.tw18264800994482138205:Unit:=()
def PySem.W.Fast.tw16638807170810048198:Unit:=()
def PySem.W.Fast.tw14332548623421248492:Unit:=()
def PySem.W.Fast.tw6256268404266111544:Unit:=()
def PySem.W.Fast.tw4735922203889264698:Unit:=()
def PySem.W.Fast.tw9203719189518353215:Unit:=()
def PySem.W.Fast.tw10388931885404643369:Unit:=()
def PySem.W.Fast.tw5214929905474096909:Unit:=()
def PySem.W.Fast.tw16701682801347952595:Unit:=()
def PySem.W.Fast.tw13791317143585601880:Unit:=()
def PySem.W.Fast.tw14534078213665687516:Unit:=()
def PySem.W.Fast.tw13947990999708938788:Unit:=()
def PySem.W.Fast.tw4351480925821958881:Unit:=()
def PySem.W.Fast.tw14862448204907753732:Unit:=()
def PySem.W.Fast.tw1024868296398049754:Unit:=()
def PySem.W.Fast.tw16640471207123697169:Unit:=()
def PySem.W.Fast.tw8781083188081672429:Unit:=()
def PySem.W.Fast.tw9316412689497147794:Unit:=()
def PySem.W.Fast.tw12316807739453383489:Unit:=()
def PySem.W.Fast.tw11372532316830432907:Unit:=()
def PySem.W.Fast.tw6197854347103659851:Unit:=()
def PySem.W.Fast.tw2740258109730784644:Unit:=()
def PySem.W.Fast.tw7450612557112172173:Unit:=()
def PySem.W.Fast.tw6006276227001044769:Unit:=()
def PySem.W.Fast.tw5495502328633065436:Unit:=()
def PySem.W.Fast.tw998655014055068675:Unit:=()
def PySem.W.Fast.tw16870256578853750498:Unit:=()
def PySem.W.Fast.tw1087872884231820308:Unit:=()
def PySem.W.Fast.tw6313010494276342907:Unit:=()
def PySem.W.Fast.tw11064738517431710335:Unit:=()
def PySem.W.Fast.tw18289132566066031318:Unit:=()
def PySem.W.Fast.tw11489408276086116272:Unit:=()
def PySem.W.Fast.tw8598955122263961562:Unit:=()
def PySem.W.Fast.tw6823988169374548286:Unit:=()
def PySem.W.Fast.tw2168824650413931145:Unit:=()
def PySem.W.Fast.tw9260044577085808982:Unit:=()
def PySem.W.Fast.tw13571264492338359084:Unit:=()
def PySem.W.Fast.tw17980016730599631178:Unit:=()
def PySem.W.Fast.tw1671919290576684335:Unit:=()
def PySem.W.Fast.tw18362451399293022770:Unit:=()
def PySem.W.Fast.tw14671670829075658616:Unit:=()
def PySem.W.Fast.tw889874377938402901:Unit:=()
open PySem PySem.W PyProof.Rows
set_option maxRecDepth 100000 in
set_option maxHeartbeats 0 in
theorem PySem.Challenge.cw_dipkin_k34_fills_refused_holds : PySem.Challenge.rw_dipkin_k34_fills_refused.Holds := by
 w_on;o_law;k_head;(case hw=>w_witness2)
 k_fill
 refine K34.walk (l:=PySem.Challenge.rw_dipkin_k34_fills_refused) rfl rfl (λw h Y=>PySem.W.km_in_of Y) (λw h Y=>PySem.W.km_tabs_of Y) ?F
 case F =>
  intro w mg fa h KX G hmg
  refine' K34.all_mk KX G hmg ?n_Filling ?pg_Filling ?hd_Filling ?po_Filling ?sa_Filling ?mk_Filling ?kc_Filling ?na_Filling_tree ?na_Filling_most ?na_Filling_young ?na_Filling_spans ?na_Filling_outsides ?na_Filling_row ?ZiH ?ZiI ?ZiJ ?Zgr ?Zg3 ?Zg4 ?Zg5 ?Zfr ?ZiK ?ZiL ?ZiM ?Zgs ?Zg6 ?Zg7 ?Zg8 ?Zfs ?ZeA ?ZeB ?ZeC ?ZcI ?ZeD ?ZeE ?ZeF ?ZcJ ?ZfO ?ZfP ?ZfQ ?ZdK ?Zca ?Zcb ?ZdM ?Zcc ?Zc3 ?Zc4 ?Zc5 ?ZbI ?Zc6 ?Zc7 ?Zct ?Zcu ?Zcv ?Zbs ?ZfR ?ZfS ?ZfT ?ZdN ?Zmy ?Zmz ?ZmA ?Zkz ?ZfU ?ZfV ?ZfW ?ZdO ?ZeH ?ZeI ?ZeJ ?ZcK ?a_Filling___init__ ?i_Filling___init__ ?l_Filling___init__ ?c_Filling___init__ ?k_Filling___init__ ?a_Filling_how_many_rows ?i_Filling_how_many_rows ?l_Filling_how_many_rows ?c_Filling_how_many_rows ?k_Filling_how_many_rows ?a_Filling_outside_ways ?i_Filling_outside_ways ?l_Filling_outside_ways ?c_Filling_outside_ways ?k_Filling_outside_ways ?a_Filling_outside_by_elder ?i_Filling_outside_by_elder ?l_Filling_outside_by_elder ?c_Filling_outside_by_elder ?k_Filling_outside_by_elder ?a_Filling_onward_ways ?i_Filling_onward_ways ?l_Filling_onward_ways ?c_Filling_onward_ways ?k_Filling_onward_ways ?a_Filling_next_ways ?i_Filling_next_ways ?l_Filling_next_ways ?c_Filling_next_ways ?k_Filling_next_ways ?ZeK ?ZeL ?ZeM ?ZcL ?ZiQ ?ZiR ?ZiS ?Zgt ?Zb0 ?Zb1 ?Zb2 ?Za4 ?Zc8 ?Zc9 ?Zda ?ZbJ ?ZeN ?ZeO ?ZeP ?ZcM ?ZeQ ?ZeR ?ZeS ?ZcN ?Zdb ?Zdc ?Zdd ?ZbK ?ZfX ?ZfY ?ZfZ ?ZdP ?ZeT ?ZeU ?ZeV ?ZcO ?ZeW ?ZeX ?ZeY ?ZcP ?ZeZ ?Ze0 ?Ze1 ?ZcQ ?ZdQ ?ZdR ?ZdS ?Zcd ?Zcw ?Zcx ?Zcy ?Zbt ?ZdT ?ZdU ?ZdV ?Zce ?Zbu ?Zcz ?ZcA ?ZaJ ?Ze4 ?Ze5 ?Ze6 ?ZcR ?ZcB ?ZcC ?ZcD ?Zbv ?Ze8 ?Ze9 ?Zfa ?ZcS ?ZdW ?ZdX ?ZdY ?Zcf ?Zf0 ?Zf1 ?Zf2 ?ZdZ ?Zd0 ?Zd1 ?Zd2 ?Zcg ?Zqc ?Zqd ?Zqf ?Zqg ?n_DipError ?x_DipError ?d_DipError ?y_DipError ?n_Unlike ?x_Unlike ?d_Unlike ?y_Unlike ?n_Empty ?x_Empty ?d_Empty ?y_Empty ?n_TooMany ?x_TooMany ?d_TooMany ?y_TooMany ?n_NoTree ?x_NoTree ?d_NoTree ?y_NoTree ?n_NoTelling ?x_NoTelling ?d_NoTelling ?y_NoTelling ?n_NoPlace ?x_NoPlace ?d_NoPlace ?y_NoPlace ?n_NoNumber ?x_NoNumber ?d_NoNumber ?y_NoNumber ?n_NoPast ?x_NoPast ?d_NoPast ?y_NoPast ?n_NoText ?x_NoText ?d_NoText ?y_NoText ?n_NoLine ?x_NoLine ?d_NoLine ?y_NoLine ?z1_NoTree ?z2_NoTree ?z3_NoTree ?z4_NoTree ?z5_NoTree ?z6_NoTree ?z7_NoTree ?z8_NoTree ?u_NoTree ?i_NoTree_DipError ?ne_NoTree_DipError ?i_NoTree_Unlike ?ne_NoTree_Unlike ?i_NoTree_Empty ?ne_NoTree_Empty ?i_NoTree_TooMany ?ne_NoTree_TooMany ?i_NoTree_NoTelling ?ne_NoTree_NoTelling ?i_NoTree_NoPlace ?ne_NoTree_NoPlace ?i_NoTree_NoNumber ?ne_NoTree_NoNumber ?i_NoTree_NoPast ?ne_NoTree_NoPast ?i_NoTree_NoText ?ne_NoTree_NoText ?i_NoTree_NoLine ?ne_NoTree_NoLine ?i_NoTree_V ?z1_TooMany ?z2_TooMany ?z3_TooMany ?z4_TooMany ?z5_TooMany ?z6_TooMany ?z7_TooMany ?z8_TooMany ?u_TooMany ?i_TooMany_DipError ?ne_TooMany_DipError ?i_TooMany_Unlike ?ne_TooMany_Unlike ?i_TooMany_Empty ?ne_TooMany_Empty ?i_TooMany_NoTree ?ne_TooMany_NoTree ?i_TooMany_NoTelling ?ne_TooMany_NoTelling ?i_TooMany_NoPlace ?ne_TooMany_NoPlace ?i_TooMany_NoNumber ?ne_TooMany_NoNumber ?i_TooMany_NoPast ?ne_TooMany_NoPast ?i_TooMany_NoText ?ne_TooMany_NoText ?i_TooMany_NoLine ?ne_TooMany_NoLine ?i_TooMany_V ?z1_NoNumber ?z2_NoNumber ?z3_NoNumber ?z4_NoNumber ?z5_NoNumber ?z6_NoNumber ?z7_NoNumber ?z8_NoNumber ?u_NoNumber ?i_NoNumber_DipError ?ne_NoNumber_DipError ?i_NoNumber_Unlike ?ne_NoNumber_Unlike ?i_NoNumber_Empty ?ne_NoNumber_Empty ?i_NoNumber_TooMany ?ne_NoNumber_TooMany ?i_NoNumber_NoTree ?ne_NoNumber_NoTree ?i_NoNumber_NoTelling ?ne_NoNumber_NoTelling ?i_NoNumber_NoPlace ?ne_NoNumber_NoPlace ?i_NoNumber_NoPast ?ne_NoNumber_NoPast ?i_NoNumber_NoText ?ne_NoNumber_NoText ?i_NoNumber_NoLine ?ne_NoNumber_NoLine ?i_NoNumber_V ?b_ValueError ?b_all ?b_bool ?b_enumerate ?b_int ?b_isinstance ?b_len ?b_list ?b_max ?b_min ?b_range ?b_reversed ?b_sorted ?b_sum ?b_tuple ?m_MOST_PLACES ?m_MOST_FILLED ?nd
  (case n_Filling|pg_Filling|hd_Filling|po_Filling|sa_Filling|mk_Filling|kc_Filling|na_Filling_tree|na_Filling_most|na_Filling_young|na_Filling_spans|na_Filling_outsides|na_Filling_row|ZiH|ZiI|ZiJ|Zgr|Zg3|Zg4|Zg5|Zfr|ZiK|ZiL|ZiM|Zgs|Zg6|Zg7|Zg8|Zfs|ZeA|ZeB|ZeC|ZcI|ZeD|ZeE|ZeF|ZcJ|ZfO|ZfP|ZfQ|ZdK|Zca|Zcb|ZdM|Zcc=>k_is)
  (case Zc3=>exact rfl)
  (case Zc4=>k_is)
  (case Zc5=>exact rfl)
  (case ZbI=>kernel_rfl)
  (case Zc6=>kernel_rfl)
  (case Zc7=>decide)
  (case Zct|Zcu|Zcv|Zbs|ZfR|ZfS|ZfT|ZdN|Zmy|Zmz|ZmA|Zkz|ZfU|ZfV|ZfW|ZdO|ZeH|ZeI|ZeJ|ZcK|a_Filling___init__|i_Filling___init__|l_Filling___init__|c_Filling___init__|k_Filling___init__|a_Filling_how_many_rows|i_Filling_how_many_rows|l_Filling_how_many_rows|c_Filling_how_many_rows|k_Filling_how_many_rows|a_Filling_outside_ways|i_Filling_outside_ways|l_Filling_outside_ways|c_Filling_outside_ways|k_Filling_outside_ways|a_Filling_outside_by_elder|i_Filling_outside_by_elder|l_Filling_outside_by_elder|c_Filling_outside_by_elder|k_Filling_outside_by_elder|a_Filling_onward_ways|i_Filling_onward_ways|l_Filling_onward_ways|c_Filling_onward_ways|k_Filling_onward_ways|a_Filling_next_ways|i_Filling_next_ways|l_Filling_next_ways|c_Filling_next_ways|k_Filling_next_ways|ZeK|ZeL|ZeM|ZcL|ZiQ|ZiR|ZiS|Zgt|Zb0|Zb1|Zb2|Za4|Zc8|Zc9|Zda|ZbJ|ZeN|ZeO|ZeP|ZcM|ZeQ|ZeR|ZeS|ZcN|Zdb|Zdc|Zdd|ZbK|ZfX|ZfY|ZfZ|ZdP|ZeT|ZeU|ZeV|ZcO|ZeW|ZeX|ZeY|ZcP|ZeZ|Ze0|Ze1|ZcQ|ZdQ|ZdR|ZdS|Zcd|Zcw|Zcx|Zcy|Zbt|ZdT|ZdU|ZdV|Zce|Zbu|Zcz|ZcA|ZaJ|Ze4|Ze5|Ze6|ZcR|ZcB|ZcC|ZcD|Zbv|Ze8|Ze9|Zfa|ZcS|ZdW|ZdX|ZdY|Zcf|Zf0|Zf1|Zf2|ZdZ|Zd0|Zd1|Zd2|Zcg|Zqc|Zqd|Zqf|Zqg|n_DipError=>k_is)
  (case x_DipError=>k_exc)
  (case d_DipError|y_DipError|n_Unlike=>k_is)
  (case x_Unlike=>k_exc)
  (case d_Unlike|y_Unlike|n_Empty=>k_is)
  (case x_Empty=>k_exc)
  (case d_Empty|y_Empty|n_TooMany=>k_is)
  (case x_TooMany=>k_exc)
  (case d_TooMany|y_TooMany|n_NoTree=>k_is)
  (case x_NoTree=>k_exc)
  (case d_NoTree|y_NoTree|n_NoTelling=>k_is)
  (case x_NoTelling=>k_exc)
  (case d_NoTelling|y_NoTelling|n_NoPlace=>k_is)
  (case x_NoPlace=>k_exc)
  (case d_NoPlace|y_NoPlace|n_NoNumber=>k_is)
  (case x_NoNumber=>k_exc)
  (case d_NoNumber|y_NoNumber|n_NoPast=>k_is)
  (case x_NoPast=>k_exc)
  (case d_NoPast|y_NoPast|n_NoText=>k_is)
  (case x_NoText=>k_exc)
  (case d_NoText|y_NoText|n_NoLine=>k_is)
  (case x_NoLine=>k_exc)
  (case d_NoLine|y_NoLine|z1_NoTree|z2_NoTree|z3_NoTree|z4_NoTree|z5_NoTree|z6_NoTree|z7_NoTree|z8_NoTree|u_NoTree|i_NoTree_DipError=>k_is)
  (case ne_NoTree_DipError=>decide)
  (case i_NoTree_Unlike=>k_is)
  (case ne_NoTree_Unlike=>decide)
  (case i_NoTree_Empty=>k_is)
  (case ne_NoTree_Empty=>decide)
  (case i_NoTree_TooMany=>k_is)
  (case ne_NoTree_TooMany=>decide)
  (case i_NoTree_NoTelling=>k_is)
  (case ne_NoTree_NoTelling=>decide)
  (case i_NoTree_NoPlace=>k_is)
  (case ne_NoTree_NoPlace=>decide)
  (case i_NoTree_NoNumber=>k_is)
  (case ne_NoTree_NoNumber=>decide)
  (case i_NoTree_NoPast=>k_is)
  (case ne_NoTree_NoPast=>decide)
  (case i_NoTree_NoText=>k_is)
  (case ne_NoTree_NoText=>decide)
  (case i_NoTree_NoLine=>k_is)
  (case ne_NoTree_NoLine=>decide)
  (case i_NoTree_V|z1_TooMany|z2_TooMany|z3_TooMany|z4_TooMany|z5_TooMany|z6_TooMany|z7_TooMany|z8_TooMany|u_TooMany|i_TooMany_DipError=>k_is)
  (case ne_TooMany_DipError=>decide)
  (case i_TooMany_Unlike=>k_is)
  (case ne_TooMany_Unlike=>decide)
  (case i_TooMany_Empty=>k_is)
  (case ne_TooMany_Empty=>decide)
  (case i_TooMany_NoTree=>k_is)
  (case ne_TooMany_NoTree=>decide)
  (case i_TooMany_NoTelling=>k_is)
  (case ne_TooMany_NoTelling=>decide)
  (case i_TooMany_NoPlace=>k_is)
  (case ne_TooMany_NoPlace=>decide)
  (case i_TooMany_NoNumber=>k_is)
  (case ne_TooMany_NoNumber=>decide)
  (case i_TooMany_NoPast=>k_is)
  (case ne_TooMany_NoPast=>decide)
  (case i_TooMany_NoText=>k_is)
  (case ne_TooMany_NoText=>decide)
  (case i_TooMany_NoLine=>k_is)
  (case ne_TooMany_NoLine=>decide)
  (case i_TooMany_V|z1_NoNumber|z2_NoNumber|z3_NoNumber|z4_NoNumber|z5_NoNumber|z6_NoNumber|z7_NoNumber|z8_NoNumber|u_NoNumber|i_NoNumber_DipError=>k_is)
  (case ne_NoNumber_DipError=>decide)
  (case i_NoNumber_Unlike=>k_is)
  (case ne_NoNumber_Unlike=>decide)
  (case i_NoNumber_Empty=>k_is)
  (case ne_NoNumber_Empty=>decide)
  (case i_NoNumber_TooMany=>k_is)
  (case ne_NoNumber_TooMany=>decide)
  (case i_NoNumber_NoTree=>k_is)
  (case ne_NoNumber_NoTree=>decide)
  (case i_NoNumber_NoTelling=>k_is)
  (case ne_NoNumber_NoTelling=>decide)
  (case i_NoNumber_NoPlace=>k_is)
  (case ne_NoNumber_NoPlace=>decide)
  (case i_NoNumber_NoPast=>k_is)
  (case ne_NoNumber_NoPast=>decide)
  (case i_NoNumber_NoText=>k_is)
  (case ne_NoNumber_NoText=>decide)
  (case i_NoNumber_NoLine=>k_is)
  (case ne_NoNumber_NoLine=>decide)
  (case i_NoNumber_V|b_ValueError|b_all|b_bool|b_enumerate|b_int|b_isinstance|b_len|b_list|b_max|b_min|b_range|b_reversed|b_sorted|b_sum|b_tuple|m_MOST_PLACES|m_MOST_FILLED=>k_is)
  (case nd=>decide)
