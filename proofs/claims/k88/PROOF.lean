import PyProof.Rows.All
import Wide.All
import OpenK.AllK
import Wide.FinOn
import Lean
import PyProof.EqAt
import PyProof.EqKinds
import PyProof.TupleCall
import PyProof.MeetsSeq
import PyProof.NeKinds
import PyProof.TupleOfSeq
import PyProof.ListRange
import PyProof.TupleOfGen
import PyProof.ZipIter
import KE.KRevIter
import PyProof.StrWalks
import PyProof.StrBlock2
import PyProof.MeetsStr
import PyProof.StrCalls2
import PyProof.StrLawsIn
import KE.KIntText
import PyProof.StrLawsTight
import PyProof.StrLawsChain
import PyProof.StrLawsAffix
import PyProof.Rows.StrItems
import PyProof.Rows.ReprOcc
import KE.KDictSum
import PyProof.Rows.SeqMore
import KE.KDictList
import KE.KStateDown
import PyProof.StrBlockI
import PyProof.FactsAll.NoneType_1
import PyProof.FString2
import PySem.Challenge.RW_dipkin_k88_whole_orders_and_rows_add_up
set_option Elab.async false
set_option linter.all false
set_option maxRecDepth 100000
set_option maxHeartbeats 4000000
set_option genSizeOfSpec false
local macro_rules | `(tactic| omega) => `(tactic| first | lia | omega (config := {}))
section
open PySem PySem.Spec PyProof.Rows
noncomputable abbrev Ya:=@wpAny_bind
noncomputable abbrev Yb:=@if_neg
noncomputable abbrev Yc:=@if_pos
noncomputable abbrev Yd:=@Nat.le_refl
noncomputable abbrev Ye:=@wpAny_pure
noncomputable abbrev Yf:=@Nat.le_trans
noncomputable abbrev Yg:=@List.getD_eq_getElem?_getD
noncomputable abbrev Yh:=@List.getElem?_eq_getElem
noncomputable abbrev Yi:=@List.length_map
noncomputable abbrev Yj:=@Heap.lt_size
noncomputable abbrev Yk:=@Heap.get?_push_of_some
noncomputable abbrev Yl:=@Nat.ne_of_lt
noncomputable abbrev Ym:=@Nat.zero_le
noncomputable abbrev Yn:=@List.length_cons
noncomputable abbrev Yo:=@List.mem_cons
noncomputable abbrev Yp:=@Heap.get?_push_size
noncomputable abbrev Yq:=@List.mem_append_right
noncomputable abbrev Yr:=@List.getElem?_eq_some_iff
noncomputable abbrev Ys:=@Nat.lt_of_le_of_lt
noncomputable abbrev Yt:=@List.size_toArray
noncomputable abbrev Yu:=@Nat.lt_of_lt_of_le
noncomputable abbrev Yv:=@PySem.boot_len
noncomputable abbrev Yw:=@Bool.false_ne_true
noncomputable abbrev Yy:=@Option.some.inj
noncomputable abbrev Yz:=@List.mem_append
noncomputable abbrev YA:=@List.map_cons
noncomputable abbrev YB:=@Nat.lt_irrefl
noncomputable abbrev YC:=@List.mem_range
noncomputable abbrev YD:=@List.length_append
noncomputable abbrev YE:=@List.getElem?_map
noncomputable abbrev YF:=@List.getElem_mem
noncomputable abbrev YG:=@List.mem_map
noncomputable abbrev YH:=@Nat.le_of_lt
noncomputable abbrev YI:=@wpAny_mono
noncomputable abbrev YJ:=@List.range_succ
noncomputable abbrev YK:=@List.mem_cons_of_mem
noncomputable abbrev YL:=@Nat.lt_succ_of_lt
noncomputable abbrev YM:=@List.map_append
noncomputable abbrev YN:=@List.mem_append_left
noncomputable abbrev YO:=@Array.length_toList
noncomputable abbrev YQ:=@List.mem_cons_self
noncomputable abbrev YR:=@decide_eq_false
noncomputable abbrev YS:=@List.getElem?_append_left
noncomputable abbrev YT:=@List.append_assoc
noncomputable abbrev YU:=@List.map_map
noncomputable abbrev YV:=@List.mem_filter
noncomputable abbrev YW:=@Nat.le_succ
noncomputable abbrev YX:=@List.length_take
noncomputable abbrev YY:=@List.getElem?_append_right
noncomputable abbrev YZ:=@Int.toNat_natCast
noncomputable abbrev Y1:=@List.getElem_of_mem
noncomputable abbrev Y2:=@decide_eq_true
noncomputable abbrev Y3:=@List.mem_singleton
noncomputable abbrev Y4:=@List.length_range
noncomputable abbrev Y5:=@Nat.le_of_eq
noncomputable abbrev Y6:=@Int.eq_ofNat_of_zero_le
noncomputable abbrev Y7:=@List.pairwise_cons
noncomputable abbrev Y8:=@List.getElem_append_left
noncomputable abbrev Y9:=@List.take_add_one
noncomputable abbrev Ja:=@List.length_drop
noncomputable abbrev Jb:=@List.getElem_append_right
noncomputable abbrev Jc:=@List.take_append_drop
end
namespace L2
open PySem PySem.Spec PyProof.Rows
noncomputable abbrev Key:=Sum Int Str
noncomputable def ZiB:Key->Value->Bool
 |.inl k,v=>Value.isInt k v
 |.inr x,v=>Value.isStrOf x v
noncomputable def keyH (w:World):Key->Int
 |.inl k=>hashInt k
 |.inr x=>hashStr w x
theorem Z4:∀{k:Key}{v:Value},ZiB k v=true->(∃i t,k=Sum.inl i/\v=Value.int i t)\/(∃x t,k=Sum.inr x/\v=Value.str x t)
 |.inl i,v,h=>by
  obtain⟨t,e⟩:=Value.isInt_shape (k:=i) (v:=v) h
  exact .inl ⟨i,t,rfl,e⟩
 |.inr x,v,h=>by
  obtain⟨t,e⟩:=Value.isStrOf_shape (x:=x) (v:=v) h
  exact .inr ⟨x,t,rfl,e⟩
theorem ZmE (i:Int) (t:Tok):ZiB (.inl i) (.int i t)=true:=by simp[ZiB,Value.isInt]
theorem ZmF (x:Str) (t:Tok):ZiB (.inr x) (.str x t)=true:=by simp[ZiB,Value.isStrOf]
theorem key_ll (a b:Int):decide ((Sum.inl a:Key)=Sum.inl b)=(a==b):=by
 by_cases e:a=b
 ·subst e;simp
 ·have h:¬ (Sum.inl a:Key)=Sum.inl b:=λq=>e (Sum.inl.inj q)
  rw[YR h]
  exact(beq_eq_false_iff_ne.mpr e).symm
theorem key_rr (a b:Str):decide ((Sum.inr a:Key)=Sum.inr b)=decide (a=b):=by
 by_cases e:a=b
 ·subst e;simp
 ·have h:¬ (Sum.inr a:Key)=Sum.inr b:=λq=>e (Sum.inr.inj q)
  rw[YR h,YR e]
theorem key_lr (a:Int) (b:Str):decide ((Sum.inl a:Key)=Sum.inr b)=false:=YR (λq=>nomatch q)
theorem key_rl (a:Str) (b:Int):decide ((Sum.inr a:Key)=Sum.inl b)=false:=YR (λq=>nomatch q)
noncomputable def Zay (prog:Program) (w:World):PySem.KeyKind prog w Key where
 is:=ZiB
 hash:=keyH w
 inj:=λv a b ha hb=>by
  rcases Z4 ha with⟨i,t,rfl,rfl⟩|⟨x,t,rfl,rfl⟩
  ·rcases Z4 hb with⟨j,u,rfl,e⟩|⟨y,u,rfl,e⟩
   ·injection e with e1 _;rw[e1]
   ·exact nomatch e
  ·rcases Z4 hb with⟨j,u,rfl,e⟩|⟨y,u,rfl,e⟩
   ·exact nomatch e
   ·injection e with e1 _;rw[e1]
 byValue:=λk v h=>by
  rcases Z4 h with⟨i,t,rfl,rfl⟩|⟨x,t,rfl,rfl⟩<;>rfl
 pyHash:=λhv h=>by
  rcases Z4 hv with⟨i,t,rfl,rfl⟩|⟨x,t,rfl,rfl⟩
  ·exact wpAny_pyHash_int h
  ·exact wpAny_pyHash_str h
 eqBool:=λhu hv h=>by
  rcases Z4 hu with⟨i,t,rfl,rfl⟩|⟨x,t,rfl,rfl⟩
  ·rcases Z4 hv with⟨j,u,rfl,rfl⟩|⟨y,u,rfl,rfl⟩
   ·rw[key_ll]at h;exact wpAny_eqBool_int h
   ·rw[key_lr]at h;exact SeqAt.EqAt.int_str i t y u _ _ _ _ h
  ·rcases Z4 hv with⟨j,u,rfl,rfl⟩|⟨y,u,rfl,rfl⟩
   ·rw[key_rl]at h;exact SeqAt.EqAt.str_int x t j u _ _ _ _ h
   ·rw[key_rr]at h;exact wpAny_eqBool_str h
 «strs»:=λk x t v h=>by
  rcases Z4 h with⟨i,u,rfl,e⟩|⟨y,u,rfl,e⟩
  ·exact nomatch e
  ·injection e with e1 _
   subst e1
   cases v<;>rfl
theorem Zkb (prog:Program) (w:World) (i:Int) (t:Tok):(Zay prog w).is (.inl i) (.int i t)=true:=ZmE i t
theorem Zkc (prog:Program) (w:World) (x:Str) (t:Tok):(Zay prog w).is (.inr x) (.str x t)=true:=ZmF x t
inductive V where
 |non|bl (b:Bool)|int (i:Int)|str (x:Str)|byt (b:Array UInt8)|flt (b:UInt64)|ref (a:Addr)|ty (n:String)
 deriving DecidableEq
noncomputable def RelV:V->Value->Prop
 |.non,u=>u=Value.none
 |.bl b,u=>u=Value.bool b
 |.int i,u=>∃t,u=Value.int i t
 |.str x,u=>∃t,u=Value.str x t
 |.byt b,u=>∃t,u=Value.bytes b t
 |.flt b,u=>∃t,u=Value.float b t
 |.ref a,u=>u=Value.ref a
 |.ty n,u=>u=Value.type n
noncomputable abbrev Vals:List V->List Value->Prop:=Paired RelV
theorem Vals.length {xs:List V}{us:List Value} (r:Vals xs us):xs.length=us.length:=Paired.length r
theorem Vals.get:∀{xs:List V}{us:List Value}{i:Nat}{x:V},Vals xs us->xs[i]?=some x->∃u,us[i]?=some u/\RelV x u
 |_,_,_,_,.nil,e=>by simp at e
 |_,_,0,_,.cons r _,e=>by simp at e;subst e;exact⟨_,rfl,r⟩
 |_,_,i+1,x,.cons _ t,e=>by
  obtain⟨u,h1,h2⟩:=Vals.get (i:=i) (x:=x) t (by simpa using e)
  exact⟨u,by simpa using h1,h2⟩
theorem Vals.set {x:V}{u:Value} (r:RelV x u):∀{xs:List V}{us:List Value} (i:Nat),Vals xs us->Vals (xs.set i x) (us.set i u)
 |_,_,_,.nil=>.nil
 |_,_,0,.cons _ t=>.cons r t
 |_,_,i+1,.cons q t=>.cons q (Vals.set r i t)
theorem Vals.append:∀{xs ys:List V}{us ws:List Value},Vals xs us->Vals ys ws->Vals (xs++ys) (us++ws)
 |_,_,_,_,.nil,s=>s
 |_,_,_,_,.cons r t,s=>.cons r (Vals.append t s)
theorem Vals.take:∀{xs:List V}{us:List Value} (n:Nat),Vals xs us->Vals (xs.take n) (us.take n)
 |_,_,0,_=>.nil
 |_,_,_+1,.nil=>.nil
 |_,_,n+1,.cons r t=>.cons r (Vals.take n t)
theorem Vals.drop:∀{xs:List V}{us:List Value} (n:Nat),Vals xs us->Vals (xs.drop n) (us.drop n)
 |_,_,0,r=>r
 |_,_,_+1,.nil=>.nil
 |_,_,n+1,.cons _ t=>Vals.drop n t
noncomputable def Zdp:Option V->Option Value->Prop
 |some v,some u=>RelV v u
 |none,none=>True
 |_,_=>False
noncomputable def KV {κ:Type}:List (κ×V)->List (κ×Value)->Prop:=Paired λ(p:κ×V) (q:κ×Value)=>p.1=q.1/\RelV p.2 q.2
noncomputable def kV:Key->V
 |.inl i=>.int i
 |.inr x=>.str x
inductive HO where
 |lst (xs:List V)
 |tup (xs:List V)
 |dK (kvs:List (Key×V))|dT (kvs:List (List Key×V))
 |set (S:Int->Bool) (n:Nat)
 |ins (C dx:Addr) (fs:List (Str×V))
 |own (x:Addr)
 |xd (fs:List (Str×V))
 |met (f x:Addr)
 |rng (lo hi:Int)
 |frz (o:Obj) (u:HO)
 |tbl (ps:Array Value)
 |ext (φ:Heap->Prop)
noncomputable abbrev Hp:=Addr->Option HO
noncomputable def upd (H:Hp) (a:Addr) (o:HO):Hp:=λb=>if b=a then some o else H b
theorem Zb {H:Hp}{a:Addr}{o:HO}:upd H a o a=some o:=by unfold upd;rw[Yc rfl]
theorem Zh {H:Hp}{a b:Addr}{o:HO} (h:b≠a):upd H a o b=H b:=by unfold upd;rw[Yb h]
theorem ne_of {H:Hp}{a b:Addr}{o u:HO} (h:H a=some o) (h':H b=some u) (d:o≠u):a≠b:=by
 intro e;subst e;rw[h]at h';exact d (Yy h')
theorem Zo {H:Hp}{a b:Addr}{o:HO} (h:H a=some o) (h':H b=none):a≠b:=by
 intro e;subst e;rw[h]at h';cases h'
section
variable (P:Program) (w:World)
noncomputable def ZW (H:Hp) (h:Heap) (a:Addr):HO->Prop
 |.lst xs=>xs.length<=sizeLine/\∃(its:List Value) (n:Nat),Vals xs its/\h.get? a=some {cls:=.type "list",data:=.seq its.toArray n}
 |.tup xs=>xs.length<=sizeLine/\∃its:List Value,Vals xs its/\IsTup h a its.toArray
 |.dK kvs=>kvs.length<=sizeLine/\(a==sysModules)=false/\∃vs,KV kvs vs/\h.DictOf (Zay P w) a vs
 |.dT kvs=>kvs.length<=sizeLine/\(a==sysModules)=false/\∃xs:List (List Key×Addr×Value),
   Paired (λ(p:List Key×V) (q:List Key×Addr×Value)=>p.1=q.1/\H q.2.1=some (.tup (p.1.map kV))/\RelV p.2 q.2.2) kvs xs /\
   ∃o es ep,h.get? a=some o/\o.ExactDict/\o.data=.dict es ep/\es.toList=xs.map (entryOfKey (tupleKind (Zay P w)))/\(xs.map (·.1)).Nodup
 |.set S n=>h.SetOf (intKind P w) a S n
 |.ins C dx fs=>H dx=some (.own a)/\fs.length<=1000/\dx≠a/\h.get? a=some (PySem.W.instObj C dx) /\
   ∃mA,h.Ns1 dx mA/\(∀f,Zdp (fs.lookup f) (mA f))/\PySem.Within mA (fs.map (·.1))
 |.own _=>∃o,h.get? a=some o
 |.xd fs=>∃mA,h.Ns1 a mA/\∀f,Zdp (fs.lookup f) (mA f)
 |.rng lo hi=>∃t u v,h.get? a=some {cls:=.type "range",data:=.fields #[.int lo t,.int hi u,.int 1 v]}
 |.frz o u=>h.get? a=some o/\ZW H h a u
 |.tbl ps=>∃ts:Array Value,h.get? a=some {cls:=.none,data:=.fields ts}/\TriplesOk ts.toList/\∀pos cv,codeAmong pos ts.toList=some cv->∃c oc vs q t t',cv=.ref c/\H c=some (.frz oc (.own a))/\oc.data=.fields vs/\ps[0]?=some (.str q t)/\vs[1]?=some (.str q t')
 |.met f x=>h.get? a=some (PySem.W.methodObj (.ref f) (.ref x))
 |.ext φ=>φ h/\(∃o,h.get? a=some o)/\∀h1 h2:Heap,φ h1->(∀o,h1.get? a=some o->h2.get? a=some o)->φ h2
noncomputable def HOk (H:Hp) (h:Heap):Prop:=∀a o,H a=some o->ZW P w H h a o
end
section
variable {P:Program}{w:World}{H H':Hp}{h h':Heap}{a:Addr}{o:HO}
theorem ZW.lt (x:ZW P w H h a o):a<h.objs.size:=by
 cases o with
 |lst xs=>obtain⟨_,_,_,_,e⟩:=x;exact Yj e
 |tup xs=>obtain⟨_,_,_,p⟩:=x;exact p.lt
 |dK kvs=>obtain⟨_,_,_,_,o,_,_,e,_⟩:=x;exact Yj e
 |dT kvs=>obtain⟨_,_,_,_,o,_,_,e,_⟩:=x;exact Yj e
 |set S n=>obtain⟨o,_,_,_,e,_⟩:=x;exact Yj e
 |ins C dx fs=>obtain⟨_,_,_,e,_⟩:=x;exact Yj e
 |own y=>obtain⟨_,e⟩:=x;exact Yj e
 |xd fs=>obtain⟨_,⟨_,_,_,e,_⟩,_⟩:=x;exact Yj e
 |rng lo hi=>obtain⟨_,_,_,e⟩:=x;exact Yj e
 |frz ob u=>obtain⟨e,_⟩:=x;exact Yj e
 |tbl ps=>obtain⟨_,e,_⟩:=x;exact Yj e
 |met f y=>exact Yj (show h.get? a=some _ from x)
 |ext φ=>obtain⟨_,⟨_,e⟩,_⟩:=x;exact Yj e
theorem Paired.mapP {α β:Type}{F G:α->β->Prop}:∀{l₁:List α}{l₂:List β},Paired F l₁ l₂->(∀a b,F a b->G a b)->Paired G l₁ l₂
 |_,_,.nil,_=>.nil
 |_,_,.cons r t,f=>.cons (f _ _ r) (Paired.mapP t f)
theorem ZW.Zhg (x:ZW P w H h a o) (k:∀b u,(b=a\/H b=some (.own a))->h.get? b=some u->h'.get? b=some u)
  (ho:∀b,H b=some (.own a)->H' b=some (.own a)) (ht:∀b xs,H b=some (.tup xs)->H' b=some (.tup xs)) (hz:∀b o u,H b=some (.frz o u)->H' b=some (.frz o u)):ZW P w H' h' a o:=by
 induction o with
 |lst xs=>obtain⟨z,its,n,r,e⟩:=x;exact⟨z,its,n,r,k _ _ (.inl rfl) e⟩
 |tup xs=>obtain⟨z,its,r,ob,e,c⟩:=x;exact⟨z,its,r,ob,k _ _ (.inl rfl) e,c⟩
 |dK kvs=>obtain⟨z,y,vs,r,ob,es,ep,e,c⟩:=x;exact⟨z,y,vs,r,ob,es,ep,k _ _ (.inl rfl) e,c⟩
 |dT kvs =>
  obtain⟨z,y,xs,r,ob,es,ep,e,c⟩:=x
  exact⟨z,y,xs,Paired.mapP r λp q z=>⟨z.1,ht _ _ z.2.1,z.2.2⟩,ob,es,ep,k _ _ (.inl rfl) e,c⟩
 |set S n=>obtain⟨ob,es,ep,t,e,c⟩:=x;exact⟨ob,es,ep,t,k _ _ (.inl rfl) e,c⟩
 |ins C dx fs =>
  obtain⟨d,z,ne,e,mA,⟨od,es,ep,e2,c⟩,r⟩:=x
  exact⟨ho _ d,z,ne,k _ _ (.inl rfl) e,mA,⟨od,es,ep,k _ _ (.inr d) e2,c⟩,r⟩
 |own y=>obtain⟨ob,e⟩:=x;exact⟨ob,k _ _ (.inl rfl) e⟩
 |xd fs=>obtain⟨mA,⟨od,es,ep,e,c⟩,r⟩:=x;exact⟨mA,⟨od,es,ep,k _ _ (.inl rfl) e,c⟩,r⟩
 |rng lo hi=>obtain⟨t,u,v,e⟩:=x;exact⟨t,u,v,k _ _ (.inl rfl) e⟩
 |frz ob u ih=>obtain⟨e,q⟩:=x;exact⟨k _ _ (.inl rfl) e,ih q⟩
 |tbl ps =>
  obtain⟨ts,e,t3,z⟩:=x
  refine⟨ts,k a _ (.inl rfl) e,t3,λpos cv hc=>?_⟩
  obtain⟨c,oc,vs,q,t,t',e1,e2,r⟩:=z pos cv hc
  exact⟨c,oc,vs,q,t,t',e1,hz _ _ _ e2,r⟩
 |met f y =>
  have e:h.get? a=some (PySem.W.methodObj (.ref f) (.ref y)):=x
  show h'.get? a=some (PySem.W.methodObj (.ref f) (.ref y))
  exact k a _ (.inl rfl) e
 |ext φ=>obtain⟨p,⟨o,e⟩,st⟩:=x;exact⟨st _ _ p λo q=>k _ _ (.inl rfl) q,⟨o,k _ _ (.inl rfl) e⟩,st⟩
theorem HOk.lt (x:HOk P w H h) (e:H a=some o):a<h.objs.size:=(x a o e).lt
theorem HOk.fresh (x:HOk P w H h) (e:h.objs.size<=a):H a=none:=by
 cases q:H a with
 |none=>rfl
 |some u=>exact absurd (Yu (x.lt q) e) (YB _)
theorem HOk.kept (x:HOk P w H h) (k:∀b u,h.get? b=some u->h'.get? b=some u):HOk P w H h':=λa o e =>
 (x a o e).Zhg (λb u _ q=>k b u q) (λ_ q=>q) (λ_ _ q=>q) λ_ _ _ q=>q
theorem HOk.laid (x:HOk P w H h) (k:∀b u,h.get? b=some u->h'.get? b=some u) (hp:h.objs.size<=a) (new:ZW P w (upd H a o) h' a o):HOk P w (upd H a o) h':=λb u e=>by
 have hn:=x.fresh hp
 by_cases hb:b=a
 ·subst hb;rw[Zb]at e;cases e;exact new
 ·rw[Zh hb]at e
  exact(x b u e).Zhg (λc v _ q=>k c v q) (λc q=>by rw[Zh (Zo q hn)];exact q) (λc xs q=>by rw[Zh (Zo q hn)];exact q) λc o u q=>by rw[Zh (Zo q hn)];exact q
end
noncomputable def Rd (H:Hp) (a:Addr) (u:HO):Prop:=H a=some u\/∃o,H a=some (.frz o u)
theorem Rd.ok {P:Program}{w:World}{H:Hp}{h:Heap}{a:Addr}{u:HO} (r:Rd H a u) (x:HOk P w H h):ZW P w H h a u:=by
 rcases r with r|⟨o,r⟩
 ·exact x a u r
 ·obtain⟨_,q⟩:=x a _ r
  exact q
noncomputable def Mut:Option HO->Prop
 |some (.lst _)=>True
 |some (.dK _)=>True
 |some (.dT _)=>True
 |some (.set _ _)=>True
 |some (.ins _ _ _)=>True
 |some (.ext _)=>True
 |_=>False
section
variable {P:Program}{w:World}{H:Hp}{h h':Heap}{x e:Addr}{o':HO}
theorem HOk.write (ok:HOk P w H h) (mu:Mut (H x)) (he:e=x\/H e=some (.own x)) (k:∀b u,b≠e->h.get? b=some u->h'.get? b=some u) (heo:∃u,h'.get? e=some u)
  (new:ZW P w (upd H x o') h' x o'):HOk P w (upd H x o') h':=λb u q=>by
 have nown:∀c y,H c=some (.own y)->c≠x:=λc y r z=>by subst z;rw[r]at mu;exact mu
 have ntup:∀c xs,H c=some (.tup xs)->c≠x:=λc xs r z=>by subst z;rw[r]at mu;exact mu
 have nfrz:∀c o u,H c=some (.frz o u)->c≠x:=λc o u r z=>by subst z;rw[r]at mu;exact mu
 by_cases hb:b=x
 ·subst hb;rw[Zb]at q;cases q;exact new
 ·rw[Zh hb]at q
  by_cases hbe:b=e
  ·have q':H b=some (.own x):=by
    rcases he with z|z
    ·exact absurd (hbe.trans z) hb
    ·rw[hbe];exact z
   rw[q]at q';cases q'
   obtain⟨v,hv⟩:=heo
   exact⟨v,by rw[hbe];exact hv⟩
  ·refine(ok b u q).Zhg (λc v hc r=>k c v ?_ r) (λc r=>by rw[Zh (nown c b r)];exact r) (λc xs r=>by rw[Zh (ntup c xs r)];exact r) λc o u r=>by rw[Zh (nfrz c o u r)];exact r
   rcases hc with rfl|hc
   ·exact hbe
   ·rintro rfl
    rcases he with z|z
    ·exact nown c b hc z
    ·rw[hc]at z;cases z;exact hb rfl
end
structure Un (fs ex:List Addr) (H H':Hp) (h h':Heap):Prop where
 keep:∀b o,h.get? b=some o->H b=none->b∉fs->b∉ex->h'.get? b=some o
 slot:∀b o,h.get? b=some o->H b=none->b∈fs->b∉ex->∃sl,h'.get? b=some {o with slots:=sl}
 free:∀b o,h.get? b=some o->H b=none->b∉ex->H' b=none
 there:∀b o,h.get? b=some o->b∉ex->∃o',h'.get? b=some o'
 tups:∀b xs,H b=some (.tup xs)->H' b=some (.tup xs)
 frzs:∀b o u,H b=some (.frz o u)->H' b=some (.frz o u)
 tbls:∀b ps,H b=some (.tbl ps)->∃more,H' b=some (.tbl (ps++more))
section
variable {fs fs' ex ex':List Addr}{H H1 H2:Hp}{h h1 h2 h':Heap}{a x e:Addr}{o:HO}
theorem Un.any (u:Un fs ex H H1 h h1) {b:Addr}{ob:Obj} (q:h.get? b=some ob) (n:H b=none) (hx:b∉ex):∃sl,h1.get? b=some {ob with slots:=sl}:=by
 by_cases hb:b∈fs
 ·exact u.slot b ob q n hb hx
 ·exact⟨ob.slots,u.keep b ob q n hb hx⟩
theorem Un.kept (k:∀b u,h.get? b=some u->h'.get? b=some u):Un fs ex H H h h' :=
 ⟨λb ob q _ _ _=>k b ob q,λb ob q _ _ _=>⟨ob.slots,k b ob q⟩,λ_ _ _ n _=>n,λb ob q _=>⟨ob,k b ob q⟩,λ_ _ q=>q,λ_ _ _ q=>q,λ_ ps q=>⟨#[],by rw[q];simp⟩⟩
theorem Un.refl:Un fs ex H H h h:=Un.kept λ_ _ q=>q
theorem Un.laid (k:∀b u,h.get? b=some u->h'.get? b=some u) (hp:h.objs.size<=a) (hn:H a=none):Un fs ex H (upd H a o) h h' where
 keep:=λb u q _ _ _=>k b u q
 slot:=λb u q _ _ _=>⟨u.slots,k b u q⟩
 free:=λb u q n _=>by rw[Zh (Yl (Yu (Yj q) hp))];exact n
 there:=λb u q _=>⟨u,k b u q⟩
 tups:=λb xs q=>by rw[Zh (Zo q hn)];exact q
 frzs:=λb u xs q=>by rw[Zh (Zo q hn)];exact q
 tbls:=λb ps q=>⟨#[],by rw[Zh (Zo q hn),q];simp⟩
theorem Un.write (mu:Mut (H x)) (he:e=x\/H e=some (.own x)) (k:∀b u,b≠e->h.get? b=some u->h'.get? b=some u) (heo:∃u,h'.get? e=some u):Un fs ex H (upd H x o) h h':=by
 have hx:∀b,H b=none->b≠x:=λb n z=>by subst z;rw[n]at mu;exact mu
 have hb:∀b,H b=none->b≠e:=λb n z=>by
  subst z
  rcases he with r|r
  ·exact hx b n r
  ·rw[n]at r;cases r
 have hm:∀b u,H b=some u->¬ Mut (some u)->b≠x:=λb u q nm z=>by subst z;rw[q]at mu;exact nm mu
 refine⟨λb u q n _ _=>k b u (hb b n) q,λb u q n _ _=>⟨u.slots,k b u (hb b n) q⟩,λb u q n _=>by rw[Zh (hx b n)];exact n,λb u q _=>?_,
  λb xs q=>by rw[Zh (hm b _ q λz=>z)];exact q,λb u xs q=>by rw[Zh (hm b _ q λz=>z)];exact q,λb ps q=>⟨#[],by rw[Zh (hm b _ q λz=>z),q];simp⟩⟩
 by_cases hbe:b=e
 ·subst hbe;exact heo
 ·exact⟨u,k b u hbe q⟩
end
noncomputable def trk (h:Heap) (H:Hp):List Addr:=(List.range h.objs.size).filter λa=>(H a).isSome
noncomputable def Zil (h:Heap) (H:Hp):Heap:=PySem.W.hideAll h (trk h H)
theorem ZmG (h:Heap) (H:Hp):(Zil h H).objs.size=h.objs.size:=PySem.W.hideAll_size _ _
theorem ZnS {h:Heap}{H:Hp}{b:Addr}{o:Obj} (e:h.get? b=some o) (n:H b=none):(Zil h H).get? b=some o :=
 PySem.W.hideAll_get _ e λhm=>by
  have q:(H b).isSome=true:=(YV.mp hm).2
  rw[n]at q;simp at q
theorem Zqf {h:Heap}{H:Hp}{b:Addr}{o:Obj} (e:(Zil h H).get? b=some o):h.get? b=some o/\H b=none:=by
 have e':h.get? b=some o:=PySem.W.of_hideAll (trk h H) e
 refine⟨e',?_⟩
 cases q:H b with
 |none=>rfl
 |some x =>
  have hm:b∈trk h H:=YV.mpr ⟨YC.mpr (Yj e'),by simp[q]⟩
  have z:(Zil h H).get? b=none:=PySem.W.hideAll_none (trk h H) hm
  rw[z]at e;cases e
noncomputable def Zqg (g h:Heap) (L:Addr):List (Addr×Obj):=(List.range h.objs.size).filterMap λa=>if a=L\/(g.get? a).isSome=true then none else (h.get? a).map λo=>(a,o)
noncomputable def rest (g h:Heap) (L d:Addr):List (Addr×Obj):=(Zqg g h L).filter λp=>decide (p.1≠d)
structure Mod (K:PySem.W.Frag) (mg:Str->Option Value) (base:Heap):Prop where
 kin:K.In base
 glob:base.Ns mainGlobals mg
 blt:∃mb,base.Ns builtinsNs mb/\∀x:Str,x≠"__name__"->mb x=bootBuiltins x
 nolimit:base.NoLimit
structure Cx where
 prog:Program
 w:World
 K:PySem.W.Frag
 mg:Str->Option Value
 base:Heap
 A:Around
 N:List Str
 s₀:Shared
 H₀:Hp
 env:Env
 outer:List Env
 stack:List Env
 ex:List Addr
 fn:Str->Bool
 calm:Bool
 pn:List (Addr×Obj)
 xe:Value->Shared->Prop
noncomputable def frs (l:List Env):List Addr:=l.filterMap (·.frame)
noncomputable abbrev Cx.fs (X:Cx):List Addr:=frs X.outer
noncomputable def Vis (sc:Scope) (x:Str):Prop:=sc.names.lookup x=some .local\/sc.names.lookup x=some .cell\/sc.names.lookup x=some .free
noncomputable def Loc (sc:Scope) (x:Str):Prop:=sc.names.lookup x=some .local\/sc.names.lookup x=some .cell
noncomputable def Look (env:Env) (h:Heap) (m:Str->Option Value) (x:Str) (u:Value):Prop :=
 (env.kindOf x=some .local/\m x=some u)\/((env.kindOf x=some .cell\/env.kindOf x=some .free)/\∃c,env.cells.lookup x=some c/\h.IsCell c (some u))
structure Cx.Ok (X:Cx):Prop where
 mod:Mod X.K X.mg X.base
 kind:X.env.scope.kind=.function
 glob:X.env.globals=mainGlobals
 blt:X.env.builtins=builtinsNs
 above:X.s₀.heap.objs.size<=X.env.locals
 inj:∀x y c,X.env.cells.lookup x=some c->X.env.cells.lookup y=some c->x=y
 has:∀x,(X.env.kindOf x=some .cell\/X.env.kindOf x=some .free)->∃c,X.env.cells.lookup x=some c
 cab:∀x c,X.fn x=true->X.env.cells.lookup x=some c->X.s₀.heap.objs.size<=c
 hd:X.calm=true->X.A.handled=none
 frames:X.A.frames=some X.stack
 stk:X.stack=X.outer\/(X.stack=X.env::X.outer/\X.env.frame=some X.env.locals)
 exf:∀b∈X.ex,b≠X.env.locals/\∀x c,X.env.cells.lookup x=some c->c≠b
 bs:∀b o,X.base.get? b=some o->X.s₀.heap.get? b=some o/\X.H₀ b=none
 bsz:X.base.objs.size<=X.s₀.heap.objs.size
 noex:∀b o,X.base.get? b=some o->b∉X.ex
 exfs:∀b∈X.ex,b∉X.fs
 funs:X.s₀.heap.FunFrames X.base X.outer
 frf:∀b∈X.fs,X.H₀ b=none
structure Inv (X:Cx) (pins:List (Addr×Obj)) (σ:List (Option V)) (H:Hp) (s:Shared):Prop where
 ok:X.Ok
 os:s.os=X.s₀.os
 bare:AllBare s.gens
 base:Un X.fs X.ex X.H₀ H X.s₀.heap s.heap
 loc:∃m,s.heap.Ns X.env.locals m/\∀(i:Nat) (x:Str) (v:V),X.N[i]?=some x->σ[i]?=some (some v)->Vis X.env.scope x->∃u,RelV v u/\Look X.env s.heap m x u
 cell:∀x c,X.env.cells.lookup x=some c->∃v,s.heap.IsCell c v
 free:H X.env.locals=none
 freeC:∀x c,X.env.cells.lookup x=some c->H c=none
 pin:∀p∈X.pn++pins,s.heap.get? p.1=some p.2/\H p.1=none/\p.1≠X.env.locals/\p.1∉X.fs/\∀v,p.2.data≠.cell v
 hok:HOk X.prog X.w H s.heap
 len:σ.length=X.N.length
section
variable {X:Cx}{pins:List (Addr×Obj)}{σ:List (Option V)}{H H':Hp}{s:Shared}{h':Heap}
theorem Cx.Ok.nofr (ok:X.Ok) {b:Addr}{o:Obj} (e:X.base.get? b=some o):b∉X.fs:=λhb=>by
 have:=(ok.funs.mem hb).1
 rw[e]at this;cases this
theorem Inv.bs (I:Inv X pins σ H s):∀b o,X.base.get? b=some o->s.heap.get? b=some o/\H b=none:=λb o e =>
 ⟨I.base.keep b o (I.ok.bs b o e).1 (I.ok.bs b o e).2 (I.ok.nofr e) (I.ok.noex b o e),I.base.free b o (I.ok.bs b o e).1 (I.ok.bs b o e).2 (I.ok.noex b o e)⟩
theorem Inv.bk (I:Inv X pins σ H s):∀b o,X.base.get? b=some o->s.heap.get? b=some o:=λb o e=>(I.bs b o e).1
theorem Inv.mod (I:Inv X pins σ H s):Mod X.K X.mg X.base:=I.ok.mod
theorem Inv.kIn (I:Inv X pins σ H s):X.K.In s.heap:=I.ok.mod.kin.keeps I.bk
theorem Inv.nolimit (I:Inv X pins σ H s):s.heap.NoLimit:=I.ok.mod.nolimit.keeps I.bk
theorem Inv.lt (I:Inv X pins σ H s):X.env.locals<s.heap.objs.size:=let ⟨_,hn,_⟩:=I.loc;hn.lt
theorem Inv.sz (I:Inv X pins σ H s):X.s₀.heap.objs.size<=s.heap.objs.size:=Yf I.ok.above (YH I.lt)
theorem Inv.nofs (I:Inv X pins σ H s) {a:Addr} (h:s.heap.objs.size<=a):a∉X.fs:=λhb=>by
 obtain⟨_,o,ho,_⟩:=I.ok.funs.mem hb
 exact absurd (Yu (Yj ho) (Yf I.sz h)) (YB _)
theorem Inv.cne (I:Inv X pins σ H s):∀x c,X.env.cells.lookup x=some c->c≠X.env.locals:=λx c e z=>by
 obtain⟨v,o,ho,hd⟩:=I.cell x c e
 obtain⟨m,⟨o',es,ep,ho',hd',_⟩,_⟩:=I.loc
 rw[z,ho']at ho;cases ho;rw[hd']at hd;cases hd
theorem Inv.funs (I:Inv X pins σ H s):s.heap.FunFrames X.base X.outer:=by
 have all:∀(l:List Env),(∀b∈frs l,b∈X.fs)->X.s₀.heap.FunFrames X.base l->s.heap.FunFrames X.base l:=by
  intro l
  induction l with
  |nil=>intro _ _;trivial
  |cons env r ih =>
   intro hs hl
   obtain⟨hk,⟨L,o,hf,hn,ho,hd⟩,hr⟩:=hl
   have hL:L∈X.fs:=hs L (by unfold frs;rw[List.filterMap_cons,hf];exact YQ)
   obtain⟨sl,e⟩:=I.base.slot L o ho (I.ok.frf L hL) hL λz=>I.ok.exfs L z hL
   exact⟨hk,⟨L,_,hf,hn,e,hd⟩,ih (λb hb=>hs b (by unfold frs;rw[List.filterMap_cons,hf];exact YK _ hb)) hr⟩
 exact all X.outer (λ_ hb=>hb) I.ok.funs
theorem Inv.stack (I:Inv X pins σ H s):s.heap.FunFrames X.base X.stack:=by
 rcases I.ok.stk with e|⟨e,hf⟩
 ·rw[e];exact I.funs
 ·rw[e]
  obtain⟨m,hn,_⟩:=I.loc
  refine .cons (by rw[I.ok.kind];decide) hf hn ?_ I.funs
  exact Heap.get?_none_of_le (Yf I.ok.bsz I.ok.above)
theorem Inv.ZfX (I:Inv X pins σ H s):∀b∈frs X.stack,b∈X.env.locals::X.fs:=λb hb=>by
 rcases I.ok.stk with e|⟨e,hf⟩
 ·rw[e]at hb;exact YK _ hb
 ·rw[e]at hb
  unfold frs at hb
  rw[List.filterMap_cons,hf]at hb
  exact hb
theorem Inv.Zg8 (I:Inv X pins σ H s):∀b∈frs X.stack,H b=none:=λb hb=>by
 rcases Yo.mp (I.ZfX b hb)with e|hb
 ·rw[e];exact I.free
 ·obtain⟨_,o,ho,_⟩:=I.ok.funs.mem hb
  exact I.base.free b o ho (I.ok.frf b hb) λz=>I.ok.exfs b z hb
theorem Inv.step {g':Array GenState}{t':Nat}{d':Drawn}{ch:List Addr} (I:Inv X pins σ H s)
  (hch:∀b∈ch,(b∈X.ex\/X.s₀.heap.objs.size<=b)/\b≠X.env.locals/\(∀x c,X.env.cells.lookup x=some c->c≠b)/\∀p∈X.pn++pins,p.1≠b)
  (keep:∀b o,b≠X.env.locals->b∉X.fs->b∉ch->s.heap.get? b=some o->H b=none->h'.get? b=some o)
  (slot:∀b o,b≠X.env.locals->b∈X.fs->b∉ch->s.heap.get? b=some o->H b=none->∃sl,h'.get? b=some {o with slots:=sl}) (free:∀b o,b∉ch->s.heap.get? b=some o->H b=none->H' b=none)
  (there:∀b o,b∉ch->s.heap.get? b=some o->∃o',h'.get? b=some o')
  (tups:∀b xs,H b=some (.tup xs)->H' b=some (.tup xs)) (frzs:∀b o u,H b=some (.frz o u)->H' b=some (.frz o u)) (tbls:∀b ps,H b=some (.tbl ps)->∃more,H' b=some (.tbl (ps++more)))
  (ns:∀m,s.heap.Ns X.env.locals m->h'.Ns X.env.locals m) (hok:HOk X.prog X.w H' h') (hg:AllBare g') :
  Inv X pins σ H' {s with heap:=h',gens:=g',drawn:=d',toks:=t'}:=by
 have neL:∀b o,X.s₀.heap.get? b=some o->b≠X.env.locals:=λb o e=>Yl (Yu (Yj e) I.ok.above)
 have neC:∀b o,X.s₀.heap.get? b=some o->b∉X.ex->b∉ch:=λb o e hx hb=>by
  rcases(hch b hb).1 with z|z
  ·exact hx z
  ·exact absurd (Yu (Yj e) z) (YB _)
 have cellK:∀x c,X.env.cells.lookup x=some c->∀v,s.heap.IsCell c v->h'.IsCell c v:=λx c e v ⟨o,ho,hd⟩=>by
  have nch:c∉ch:=λz=>(hch c z).2.2.1 x c e rfl
  by_cases hc:c∈X.fs
  ·obtain⟨sl,q⟩:=slot c o (I.cne x c e) hc nch ho (I.freeC x c e)
   exact⟨_,q,hd⟩
  ·exact⟨o,keep c o (I.cne x c e) hc nch ho (I.freeC x c e),hd⟩
 refine⟨I.ok,I.os,hg,⟨λb o e n hb hx=>?_,λb o e n hb hx=>?_,λb o e n hx=>?_,λb o e hx=>?_,λb xs e=>tups b xs (I.base.tups b xs e),λb o xs e=>frzs b o xs (I.base.frzs b o xs e),λb ps e=>?_⟩,?_,λx c e=>?_,?_,λx c e=>?_,λp hp=>?_,hok,I.len⟩
 ·exact keep b o (neL b o e) hb (neC b o e hx) (I.base.keep b o e n hb hx) (I.base.free b o e n hx)
 ·obtain⟨sl,e1⟩:=I.base.slot b o e n hb hx
  obtain⟨sl',e2⟩:=slot b _ (neL b o e) hb (neC b o e hx) e1 (I.base.free b o e n hx)
  exact⟨sl',e2⟩
 ·obtain⟨o',e1⟩:=I.base.there b o e hx
  exact free b o' (neC b o e hx) e1 (I.base.free b o e n hx)
 ·obtain⟨o',e1⟩:=I.base.there b o e hx
  exact there b o' (neC b o e hx) e1
 ·obtain⟨m1,e1⟩:=I.base.tbls b ps e
  obtain⟨m2,e2⟩:=tbls b _ e1
  exact⟨m1++m2,by rw[e2,Array.append_assoc]⟩
 ·obtain⟨m,hn,hl⟩:=I.loc
  refine⟨m,ns m hn,λi x v e1 e2 e3=>?_⟩
  obtain⟨u,r,l⟩:=hl i x v e1 e2 e3
  refine⟨u,r,?_⟩
  rcases l with l|⟨k,c,e,z⟩
  ·exact .inl l
  ·exact .inr ⟨k,c,e,cellK x c e _ z⟩
 ·obtain⟨v,z⟩:=I.cell x c e
  exact⟨v,cellK x c e v z⟩
 ·obtain⟨m,⟨o,_,_,ho,_⟩,_⟩:=I.loc
  exact free _ o (λz=>(hch _ z).2.1 rfl) ho I.free
 ·obtain⟨v,o,ho,hd⟩:=I.cell x c e
  exact free c o (λz=>(hch c z).2.2.1 x c e rfl) ho (I.freeC x c e)
 ·obtain⟨e,n,ne,nf,d⟩:=I.pin p hp
  have nch:p.1∉ch:=λz=>(hch p.1 z).2.2.2 p hp rfl
  exact⟨keep p.1 p.2 ne nf nch e n,free p.1 p.2 nch e n,ne,nf,d⟩
theorem Inv.un {t':Nat} (I:Inv X pins σ H s) (u:Un X.fs [] H H' s.heap h') (hok:HOk X.prog X.w H' h'):Inv X pins σ H' {s with heap:=h',toks:=t'}:=by
 obtain⟨m,⟨o,es,ep,ho,r⟩,_⟩:=id I.loc
 obtain⟨sl,hL⟩:=u.any ho I.free (by simp)
 exact I.step (g':=s.gens) (d':=s.drawn) (ch:=[]) (λ_ z=>nomatch z) (λb o _ hb _ e n=>u.keep b o e n hb (by simp)) (λb o _ hb _ e n=>u.slot b o e n hb (by simp)) (λb o _ e n=>u.free b o e n (by simp)) (λb o _ e=>u.there b o e (by simp)) u.tups u.frzs u.tbls (λm' hm=>by
  obtain⟨o',es',ep',ho',r'⟩:=hm
  rw[ho]at ho';cases ho'
  exact⟨_,es',ep',hL,r'⟩) hok I.bare
theorem Inv.call {g':Array GenState}{t':Nat}{d':Drawn}{ch:List Addr} (I:Inv X pins σ H s) (u:Un (frs X.stack) ch H H' s.heap h') (hok:HOk X.prog X.w H' h') (hg:AllBare g')
  (hch:∀b∈ch,(b∈X.ex\/X.s₀.heap.objs.size<=b)/\b≠X.env.locals/\(∀x c,X.env.cells.lookup x=some c->c≠b)/\∀p∈X.pn++pins,p.1≠b) :
  Inv X pins σ H' {s with heap:=h',gens:=g',drawn:=d',toks:=t'}:=by
 obtain⟨m,⟨o,es,ep,ho,r⟩,_⟩:=id I.loc
 obtain⟨sl,hL⟩:=u.any ho I.free λz=>(hch _ z).2.1 rfl
 exact I.step (ch:=ch) hch (λb o hL hb hc e n=>u.keep b o e n (λz=>(Yo.mp (I.ZfX b z)).elim hL hb) hc) (λb o _ _ hc e n=>u.any e n hc) (λb o hc e n=>u.free b o e n hc) (λb o hc e=>u.there b o e hc) u.tups u.frzs u.tbls (λm' hm=>by
  obtain⟨o',es',ep',ho',r'⟩:=hm
  rw[ho]at ho';cases ho'
  exact⟨_,es',ep',hL,r'⟩) hok hg
theorem Inv.turned {t':Nat}{it:Addr} (I:Inv X pins σ H s) (k:∀b o,b≠it->s.heap.get? b=some o->h'.get? b=some o) (hn:H it=none) (hL:it≠X.env.locals)
  (h1:it∈X.ex\/X.s₀.heap.objs.size<=it) (h2:∀x c,X.env.cells.lookup x=some c->c≠it) (h3:∀p∈X.pn++pins,p.1≠it):Inv X pins σ H {s with heap:=h',toks:=t'}:=by
 have nit:∀b u,H b=some u->b≠it:=λb u e z=>by rw[z,hn]at e;cases e
 refine I.step (g':=s.gens) (d':=s.drawn) (ch:=[it]) (λb hb=>?_) (λb o _ _ hc e _=>k b o (λz=>hc (by simp[z])) e) (λb o _ _ hc e _=>⟨o.slots,k b o (λz=>hc (by simp[z])) e⟩) (λ_ _ _ _ n=>n)
  (λb o hc e=>⟨o,k b o (λz=>hc (by simp[z])) e⟩) (λ_ _ e=>e) (λ_ _ _ e=>e) (λb ps e=>⟨#[],by rw[e];simp⟩) (λm hm=>?_) (λb u e=>?_) I.bare
 ·have e:b=it:=by simpa using hb
  subst e
  exact⟨h1,hL,h2,h3⟩
 ·obtain⟨o,es,ep,ho,r⟩:=hm
  exact⟨o,es,ep,k _ o (Ne.symm hL) ho,r⟩
 ·refine(I.hok b u e).Zhg (λc v hc q=>k c v ?_ q) (λ_ q=>q) (λ_ _ q=>q) λ_ _ _ q=>q
  rcases hc with z|z
  ·rw[z];exact nit b u e
  ·exact nit c _ z
theorem Inv.tok (I:Inv X pins σ H s) (t:Nat):Inv X pins σ H {s with toks:=t}:=I.un (h':=s.heap) (t':=t) Un.refl I.hok
theorem Inv.kept {t':Nat} (I:Inv X pins σ H s) (k:∀b u,s.heap.get? b=some u->h'.get? b=some u):Inv X pins σ H {s with heap:=h',toks:=t'}:=I.un (Un.kept k) (I.hok.kept k)
theorem Inv.laid {a:Addr}{o:HO}{t':Nat} (I:Inv X pins σ H s) (k:∀b u,s.heap.get? b=some u->h'.get? b=some u) (hp:s.heap.objs.size<=a) (new:ZW X.prog X.w (upd H a o) h' a o) :
  Inv X pins σ (upd H a o) {s with heap:=h',toks:=t'}:=I.un (Un.laid k hp (I.hok.fresh hp)) (I.hok.laid k hp new)
theorem Inv.write {x e:Addr}{o:HO}{t':Nat} (I:Inv X pins σ H s) (mu:Mut (H x)) (he:e=x\/H e=some (.own x)) (k:∀b u,b≠e->s.heap.get? b=some u->h'.get? b=some u) (heo:∃u,h'.get? e=some u)
  (new:ZW X.prog X.w (upd H x o) h' x o):Inv X pins σ (upd H x o) {s with heap:=h',toks:=t'}:=I.un (Un.write mu he k heo) (I.hok.write mu he k heo new)
theorem Inv.weak {σ':List (Option V)} (I:Inv X pins σ H s) (hl:σ'.length=σ.length) (w:∀(i:Nat) v,σ'[i]?=some (some v)->σ[i]?=some (some v)):Inv X pins σ' H s :=
 ⟨I.ok,I.os,I.bare,I.base,let ⟨m,hn,hl'⟩:=I.loc;⟨m,hn,λi x v e1 e2 e3=>hl' i x v e1 (w i v e2) e3⟩,I.cell,I.free,I.freeC,I.pin,I.hok,hl.trans I.len⟩
theorem Inv.Za1 {pins':List (Addr×Obj)} (I:Inv X pins σ H s) (h:∀p∈pins',s.heap.get? p.1=some p.2/\H p.1=none/\p.1≠X.env.locals/\p.1∉X.fs/\∀v,p.2.data≠.cell v):Inv X pins' σ H s :=
 ⟨I.ok,I.os,I.bare,I.base,I.loc,I.cell,I.free,I.freeC,λp hp=>(Yz.mp hp).elim (λz=>I.pin p (YN _ z)) (h p),I.hok,I.len⟩
theorem Zkd {N:List Str} (hN:N.Nodup) {i j:Nat}{x:Str} (a:N[i]?=some x) (b:N[j]?=some x):i=j:=by
 obtain⟨h1,e1⟩:=Yr.mp a
 obtain⟨h2,e2⟩:=Yr.mp b
 exact(List.getElem_inj hN).mp (e1.trans e2.symm)
theorem ZmH {M:Model}{A:Around}{E:Value->Shared->Prop}{i:Nat}{x:Str}{v:V}{u:Value}{Q:Unit->Shared->Prop} (I:Inv X pins σ H s) (hN:X.N.Nodup) (hi:X.N[i]?=some x) (hx:Loc X.env.scope x) (r:RelV v u)
  (h:∀s',Inv X pins (σ.set i (some v)) H s'->(∃a,Heap.SameBut a s.heap s'.heap/\(a=X.env.locals\/X.env.cells.lookup x=some a))->Q () s') (hf:X.fn x=true\/X.env.scope.names.lookup x=some .local:=by first|exact .inl rfl|exact .inr rfl|assumption):wpAny M A (storeName X.env x u) Q E s:=by
 obtain⟨m,hn,hl⟩:=id I.loc
 have hcls:(X.env.scope.kind==.class||(X.env.scope.kind==.module&&X.env.locals != X.env.globals))=false:=by rw[I.ok.kind];rfl
 have hiσ:i < σ.length:=by rw[I.len];exact(Yr.mp hi).1
 have cne:=I.cne
 have tracked:∀{a:Addr}{h':Heap},(∃o,s.heap.get? a=some o/\H a=none)->Heap.SameBut a s.heap h'->HOk X.prog X.w H h':=λ{a h'} ha hs b ob e=>by
  obtain⟨_,_,hfree⟩:=ha
  refine(I.hok b ob e).Zhg (λc w' hc q=>(hs.2 c ?_).trans q) (λ_ q=>q) (λ_ _ q=>q) λ_ _ _ q=>q
  rintro rfl
  rcases hc with rfl|hc
  ·rw[hfree]at e;cases e
  ·rw[hfree]at hc;cases hc
 rcases hx with hk|hk
 ·refine wpAny_storeName_local hk hn (λh' hn' hs=>?_) hcls
  obtain⟨oL,_,_,hoL,_⟩:=id hn
  refine h _ ⟨I.ok,I.os,I.bare,⟨λb o e n hb hx=>?_,λb o e n hb hx=>?_,I.base.free,λb o e hx=>?_,I.base.tups,I.base.frzs,I.base.tbls⟩,⟨_,hn',λj y v' e1 e2 e3=>?_⟩,λy c e=>?_,I.free,I.freeC,λp hp=>?_,tracked ⟨oL,hoL,I.free⟩ hs,by simpa using I.len⟩ ⟨_,hs,.inl rfl⟩
  ·exact(hs.2 b (Yl (Yu (Yj e) I.ok.above))).trans (I.base.keep b o e n hb hx)
  ·obtain⟨sl,e1⟩:=I.base.slot b o e n hb hx
   exact⟨sl,(hs.2 b (Yl (Yu (Yj e) I.ok.above))).trans e1⟩
  ·obtain⟨o',e1⟩:=I.base.there b o e hx
   exact⟨o',(hs.2 b (Yl (Yu (Yj e) I.ok.above))).trans e1⟩
  ·by_cases hj:j=i
   ·subst hj
    rw[hi]at e1;cases e1
    rw[List.getElem?_set_self hiσ]at e2
    cases e2
    exact⟨u,r,.inl ⟨hk,by simp⟩⟩
   ·rw[List.getElem?_set_ne (Ne.symm hj)]at e2
    obtain⟨u',r',q⟩:=hl j y v' e1 e2 e3
    refine⟨u',r',?_⟩
    rcases q with⟨k,e⟩|⟨k,c,e,z⟩
    ·refine .inl ⟨k,?_⟩
     have:y≠x:=λe=>hj (Zkd hN e1 (e▸hi))
     simp[this,e]
    ·exact .inr ⟨k,c,e,z.sameBut hs (cne y c e)⟩
  ·obtain⟨w',z⟩:=I.cell y c e
   exact⟨w',z.sameBut hs (cne y c e)⟩
  ·obtain⟨e,n,ne,nf,d⟩:=I.pin p hp
   exact⟨(hs.2 p.1 ne).trans e,n,ne,nf,d⟩
 ·have hfn:X.fn x=true:=by
   rcases hf with z|z
   ·exact z
   ·rw[z]at hk;cases hk
  obtain⟨c,hc⟩:=I.ok.has x (.inl hk)
  obtain⟨w',z⟩:=I.cell x c hc
  refine wpAny_storeName_cell I.ok.kind hk hc z (λh' hc' hs=>?_)
  obtain⟨oc,hoc,hocd⟩:=id z
  refine h {s with heap:=h'} ⟨I.ok,I.os,I.bare,⟨λb o e n hb hx=>?_,λb o e n hb hx=>?_,I.base.free,λb o e hx=>?_,I.base.tups,I.base.frzs,I.base.tbls⟩,⟨m,hn.sameBut hs (Ne.symm (cne x c hc)),λj y v' e1 e2 e3=>?_⟩,λy c' e=>?_,I.free,I.freeC,λp hp=>?_,tracked ⟨oc,hoc,I.freeC x c hc⟩ hs,by simpa using I.len⟩ ⟨c,hs,.inr hc⟩
  ·exact(hs.2 b (Yl (Yu (Yj e) (I.ok.cab x c hfn hc)))).trans (I.base.keep b o e n hb hx)
  ·obtain⟨sl,e1⟩:=I.base.slot b o e n hb hx
   exact⟨sl,(hs.2 b (Yl (Yu (Yj e) (I.ok.cab x c hfn hc)))).trans e1⟩
  ·obtain⟨o',e1⟩:=I.base.there b o e hx
   exact⟨o',(hs.2 b (Yl (Yu (Yj e) (I.ok.cab x c hfn hc)))).trans e1⟩
  ·by_cases hj:j=i
   ·subst hj
    rw[hi]at e1;cases e1
    rw[List.getElem?_set_self hiσ]at e2
    cases e2
    exact⟨u,r,.inr ⟨.inl hk,c,hc,hc'⟩⟩
   ·rw[List.getElem?_set_ne (Ne.symm hj)]at e2
    obtain⟨u',r',q⟩:=hl j y v' e1 e2 e3
    refine⟨u',r',?_⟩
    rcases q with q|⟨k,c',e,z'⟩
    ·exact .inl q
    ·refine .inr ⟨k,c',e,z'.sameBut hs ?_⟩
     rintro rfl
     exact hj (Zkd hN e1 (I.ok.inj _ _ _ e hc▸hi))
  ·by_cases hcc:c'=c
   ·subst hcc;exact⟨_,hc'⟩
   ·obtain⟨w2,z2⟩:=I.cell y c' e
    exact⟨w2,z2.sameBut hs hcc⟩
  ·obtain⟨e,n,ne,nf,d⟩:=I.pin p hp
   refine⟨(hs.2 p.1 ?_).trans e,n,ne,nf,d⟩
   intro q
   rw[q,hoc]at e
   have q':oc=p.2:=Yy e
   exact d w' (by rw[<-q'];exact hocd)
theorem Zhh {M:Model}{A:Around}{E:Value->Shared->Prop}{i:Nat}{x:Str}{v:V}{u:Value}{Q:Unit->Shared->Prop} (I:Inv X pins σ H s) (hN:X.N.Nodup) (hi:X.N[i]?=some x) (hx:Loc X.env.scope x) (r:RelV v u)
  (h:∀s',Inv X pins (σ.set i (some v)) H s'->Q () s') (hf:X.fn x=true\/X.env.scope.names.lookup x=some .local:=by first|exact .inl rfl|exact .inr rfl|assumption):wpAny M A (storeName X.env x u) Q E s :=
 ZmH I hN hi hx r (λs' I' _=>h s' I') hf
theorem Inv.call' {s':Shared}{ch:List Addr} (I:Inv X pins σ H s) (ho:s'.os=s.os) (u:Un (frs X.stack) ch H H' s.heap s'.heap) (hok:HOk X.prog X.w H' s'.heap) (hg:AllBare s'.gens)
  (hch:∀b∈ch,(b∈X.ex\/X.s₀.heap.objs.size<=b)/\b≠X.env.locals/\(∀x c,X.env.cells.lookup x=some c->c≠b)/\∀p∈X.pn++pins,p.1≠b):Inv X pins σ H' s':=by
 obtain⟨h',g',d',t',o'⟩:=s'
 have e:o'=s.os:=ho
 subst e
 exact I.call (g':=g') (t':=t') (d':=d') u hok hg hch
end
noncomputable abbrev XK:=Value->Option Addr->Hp->Prop
noncomputable abbrev St:=List (Option V)
noncomputable abbrev VK:=V->Hp->Prop
noncomputable abbrev TE:=St->Hp->VK->Prop
noncomputable abbrev TT:=St->Hp->(Bool->Hp->Prop)->Prop
noncomputable abbrev TA:=St->Hp->(List V->Hp->Prop)->Prop
structure Ends where
 nx:St->Hp->Prop
 rt:VK
 bk:St->Hp->Prop:=λ_ _=>False
 ct:St->Hp->Prop:=λ_ _=>False
noncomputable abbrev TS:=Ends->St->Hp->Prop
noncomputable def EP (X:Cx) (pins:List (Addr×Obj)) (σ:St) (Q:VK) (u:Value) (s':Shared):Prop:=∃v H',Inv X pins σ H' s'/\RelV v u/\Q v H'
noncomputable def TP (X:Cx) (pins:List (Addr×Obj)) (σ:St) (Q:Bool->Hp->Prop) (b:Bool) (s':Shared):Prop:=∃H',Inv X pins σ H' s'/\Q b H'
noncomputable def AP (X:Cx) (pins:List (Addr×Obj)) (σ:St) (Q:List V->Hp->Prop) (us:List Value) (s':Shared):Prop:=∃vs H',Inv X pins σ H' s'/\Vals vs us/\Q vs H'
noncomputable def SP (X:Cx) (pins:List (Addr×Obj)) (D:Ends) (f:Flow) (s':Shared):Prop :=
 match f with
 |.next=>∃σ' H',Inv X pins σ' H' s'/\D.nx σ' H'
 |.brk=>∃σ' H',Inv X pins σ' H' s'/\D.bk σ' H'
 |.cont=>∃σ' H',Inv X pins σ' H' s'/\D.ct σ' H'
 |.ret u=>∃v σ' H',Inv X pins σ' H' s'/\RelV v u/\D.rt v H'
noncomputable def PE (X:Cx) (e:Expr) (t:TE):Prop :=
 ∀(pins:List (Addr×Obj)) (s:Shared) (σ:St) (H:Hp) (Q:VK),Inv X pins σ H s->t σ H Q->wpAny (model X.prog X.w) X.A (eval e X.env) (EP X pins σ Q) X.xe s
noncomputable def PT (X:Cx) (e:Expr) (t:TT):Prop :=
 ∀(pins:List (Addr×Obj)) (s:Shared) (σ:St) (H:Hp) (Q:Bool->Hp->Prop),Inv X pins σ H s->t σ H Q->wpAny (model X.prog X.w) X.A (isTrue e X.env (eval e X.env)) (TP X pins σ Q) X.xe s
noncomputable def PW (X:Cx) (e:Expr) (t:TT):Prop :=
 ∀(whole:Sem Value) (pins:List (Addr×Obj)) (s:Shared) (σ:St) (H:Hp) (Q:Bool->Hp->Prop),Inv X pins σ H s->t σ H Q->wpAny (model X.prog X.w) X.A (isTrue e X.env whole) (TP X pins σ Q) X.xe s
theorem PW.pt {X:Cx}{e:Expr}{t:TT} (h:PW X e t):PT X e t:=h _
noncomputable def PA (X:Cx) (es:List Expr) (t:TA):Prop :=
 ∀(pos:Pos) (pins:List (Addr×Obj)) (s:Shared) (σ:St) (H:Hp) (Q:List V->Hp->Prop),Inv X pins σ H s->t σ H Q->wpAny (model X.prog X.w) X.A (spliced (backTo pos (starEach es X.env))) (AP X pins σ Q) X.xe s
noncomputable def PS (X:Cx) (st:Stmt) (t:TS):Prop :=
 ∀(pins:List (Addr×Obj)) (s:Shared) (σ:St) (H:Hp) (D:Ends),Inv X pins σ H s->t D σ H->wpAny (model X.prog X.w) X.A (exec st X.env) (SP X pins D) X.xe s
noncomputable def PSs (X:Cx) (st:List Stmt) (t:TS):Prop :=
 ∀(pins:List (Addr×Obj)) (s:Shared) (σ:St) (H:Hp) (D:Ends),Inv X pins σ H s->t D σ H->wpAny (model X.prog X.w) X.A (execs st X.env) (SP X pins D) X.xe s
theorem thn {α:Type}{t:Sem α}{Q Q':α->Shared->Prop}{M:Model}{A:Around}{E:Value->Shared->Prop}{s:Shared} (h:wpAny M A t Q E s) (hQ:∀a s,Q a s->Q' a s):wpAny M A t Q' E s:=YI h hQ λ_ _ x=>x
section
variable {X:Cx}
noncomputable def tVar (i:Nat):TE:=fun σ H Q=>∃v,σ[i]?=some (some v)/\Q v H
noncomputable def tC (v:V):TE:=λ_ H Q=>Q v H
theorem pe_var {i:Nat}{x:Str}{pos:Pos} (hN:X.N[i]?=some x) (hv:Vis X.env.scope x) (hd:(x==("__debug__":Str))=false:=by decide) (hcd:(x==("__classdict__":Str))=false:=by decide):PE X (.Name x pos) (tVar i):=by
 intro pins s σ H Q I h
 obtain⟨v,e,h⟩:=h
 obtain⟨m,hn,hl⟩:=I.loc
 obtain⟨u,r,l⟩:=hl i x v hN e hv
 have fin:EP X pins σ Q u s:=⟨v,H,I,r,h⟩
 rcases l with⟨hk,hm⟩|⟨hk,c,hc,hcell⟩
 ·exact wpAny_Name (wpAny_loadName_local I.ok.kind hk hn hm fin) hd
 ·rcases hk with hk|hk
  ·exact wpAny_Name (wpAny_loadName_cell I.ok.kind hk hc hcell fin) hd
  ·exact wpAny_Name (wpAny_loadName_free I.ok.kind hk hc hcell fin hcd) hd
theorem Ze {i j pos}:PE X (.Constant (.int i) j pos) (tC (.int i)):=λ_ _ _ H _ I h=>wpAny_Constant_int ⟨.int i,H,I.tok _,⟨_,rfl⟩,h⟩
theorem Zfm {b j pos}:PE X (.Constant (.bool b) j pos) (tC (.bl b)):=λ_ _ _ H _ I h=>Constant_bool ⟨.bl b,H,I,rfl,h⟩
theorem Zjd {j pos}:PE X (.Constant .none j pos) (tC .non):=λ_ _ _ H _ I h=>Constant_none ⟨.non,H,I,rfl,h⟩
noncomputable def Gl (X:Cx) (x:Str):Prop:=X.env.kindOf x=some .globalImplicit
theorem Zg9 {E:Value->Shared->Prop}{pins:List (Addr×Obj)}{s:Shared}{σ:St}{H:Hp}{x:Str}{u:Value}{pos:Pos}{Q:Value->Shared->Prop} (I:Inv X pins σ H s) (hg:Gl X x) (hm:X.mg x=some u) (h:Q u s)
  (hd:(x==("__debug__":Str))=false:=by decide):wpAny (model X.prog X.w) X.A (eval (.Name x pos) X.env) Q E s :=
 Calls.Name_function_global I.ok.kind hg (Calls.loadGlobal_global (by rw[I.ok.glob];exact I.mod.glob.keeps I.bk) hm h) hd
theorem Zbc {E:Value->Shared->Prop}{pins:List (Addr×Obj)}{s:Shared}{σ:St}{H:Hp}{x:Str}{u:Value}{pos:Pos}{Q:Value->Shared->Prop} (I:Inv X pins σ H s) (hg:Gl X x) (hm:X.mg x=none) (hv:bootBuiltins x=some u) (h:Q u s)
  (hn:x≠"__name__":=by decide) (hd:(x==("__debug__":Str))=false:=by decide):wpAny (model X.prog X.w) X.A (eval (.Name x pos) X.env) Q E s:=by
 obtain⟨mb,h1,h2⟩:=I.mod.blt
 exact Calls.Name_function_global I.ok.kind hg (Calls.loadGlobal_builtin (by rw[I.ok.glob];exact I.mod.glob.keeps I.bk) hm (by rw[I.ok.blt];exact h1.keeps I.bk) ((h2 x hn).trans hv) h) hd
theorem Zby {x:Str}{v:V}{u:Value}{pos:Pos} (hg:Gl X x) (hm:X.mg x=some u) (r:RelV v u) (hd:(x==("__debug__":Str))=false:=by decide):PE X (.Name x pos) (tC v) :=
 λ_ _ _ H _ I h=>Zg9 I hg hm ⟨v,H,I,r,h⟩ hd
theorem Zl5 {x:Str}{v:V}{u:Value}{pos:Pos} (hg:Gl X x) (hm:X.mg x=none) (hv:bootBuiltins x=some u) (r:RelV v u) (hn:x≠"__name__":=by decide) (hd:(x==("__debug__":Str))=false:=by decide):PE X (.Name x pos) (tC v) :=
 λ_ _ _ H _ I h=>Zbc I hg hm hv ⟨v,H,I,r,h⟩ hn hd
variable {a b:Expr}{ta tb:TE}{pos:Pos}
noncomputable def PC (X:Cx) (op:CmpOp) (a b:Expr) (t:TE):Prop :=
 ∀(pins:List (Addr×Obj)) (s:Shared) (σ:St) (H:Hp) (Q:VK),Inv X pins σ H s->t σ H Q ->
  wpAny (model X.prog X.w) X.A (eval a X.env) (λv s₁=>wpAny (model X.prog X.w) X.A (eval b X.env) (λu s₂=>wpAny (model X.prog X.w) X.A (compareOp op v u) (EP X pins σ Q) X.xe s₂) X.xe s₁) X.xe s
theorem ZnT (b:Expr) {op:CmpOp} (h:op≠.In) (h2:op≠.NotIn):behindInMarks op b=false:=by
 have e1:(op==CmpOp.In)=false:=by cases op<;>first|rfl|exact absurd rfl h
 have e2:(op==CmpOp.NotIn)=false:=by cases op<;>first|rfl|exact absurd rfl h2
 cases b<;>simp[behindInMarks,e1,e2]
noncomputable def tB (t:TE):TT:=fun σ H Q=>t σ H λx H1=>∃c,x=.bl c/\Q c H1
theorem pt_cmp {op:CmpOp}{t:TE} (h:PC X op a b t) (h1:behindInMarks op b=false:=by first|exact ZnT _ (by decide) (by decide)|rfl):PT X (.Compare a [op] [b] pos) (tB t):=by
 intro pins s σ H Q I hw
 refine wpAny_isTrue_Compare1 (thn (h pins s σ H _ I hw) λv s1 h1=>thn h1 λu s2 h2=>thn h2 λc s3 ⟨x,H1,I1,r1,q1⟩=>?_) h1
 obtain⟨d,rfl,q⟩:=q1
 cases r1
 exact wpAny_truthy_bool ⟨H1,I1,q⟩
theorem Zhi {e:Expr}{t:TE} (h:PE X e t) (he:∀whole,isTrue e X.env whole=(do let v <-whole;standAt e.pos;holding [v] (truthy v)):=by intro _;rfl):PT X e (tB t):=by
 intro pins s σ H Q I hw
 refine isTrue_plain (thn (h pins s σ H _ I hw) λv s1 ⟨x,H1,I1,r1,q1⟩=>?_) (he _)
 obtain⟨d,rfl,q⟩:=q1
 cases r1
 exact wpAny_truthy_bool ⟨H1,I1,q⟩
variable {tA tB':TT}{rest:List Expr}
noncomputable def tAnd (t u:TT):TT:=fun σ H Q=>t σ H λc H1=>if c=true then u σ H1 Q else Q false H1
noncomputable def tOr (t u:TT):TT:=fun σ H Q=>t σ H λc H1=>if c=true then Q true H1 else u σ H1 Q
noncomputable def tNot (t:TT):TT:=fun σ H Q=>t σ H λc H1=>Q (!c) H1
theorem Zha (ha:PT X a tA):PW X (.BoolOp .And [a] pos) tA:=by
 intro wh pins s σ H Q I h
 refine isTrue_and (thn (ha pins s σ H Q I h) λc s1 e=>?_)
 cases c with
 |true=>exact isTrue_and_nil e
 |false=>exact e
theorem Zje (ha:PT X a tA):PW X (.BoolOp .Or [a] pos) tA:=by
 intro wh pins s σ H Q I h
 refine isTrue_or (thn (ha pins s σ H Q I h) λc s1 e=>?_)
 cases c with
 |false=>exact isTrue_or_nil e
 |true=>exact e
theorem Zjf (ha:PT X a tA) (hb:PW X (.BoolOp .And (b::rest) pos) tB'):PW X (.BoolOp .And (a::b::rest) pos) (tAnd tA tB'):=by
 intro wh pins s σ H Q I h
 refine isTrue_and (thn (ha pins s σ H _ I h) λc s1 ⟨H1,I1,q1⟩=>?_)
 cases c with
 |true=>exact hb wh pins s1 σ H1 Q I1 q1
 |false=>exact⟨H1,I1,q1⟩
theorem Zl6 (ha:PT X a tA) (hb:PW X (.BoolOp .Or (b::rest) pos) tB'):PW X (.BoolOp .Or (a::b::rest) pos) (tOr tA tB'):=by
 intro wh pins s σ H Q I h
 refine isTrue_or (thn (ha pins s σ H _ I h) λc s1 ⟨H1,I1,q1⟩=>?_)
 cases c with
 |true=>exact⟨H1,I1,q1⟩
 |false=>exact hb wh pins s1 σ H1 Q I1 q1
theorem Zci (ha:PT X a tA):PT X (.UnaryOp .Not a pos) (tNot tA):=by
 intro pins s σ H Q I h
 exact isTrue_not (ha pins s σ H (λc H1=>Q (!c) H1) I h)
noncomputable def tOrV (ta tb:TE):TE:=fun σ H Q=>ta σ H λx H1=>∃c,x=.bl c/\if c=true then Q (.bl true) H1 else tb σ H1 Q
theorem pe_one {op}{t:TE} (h:PE X a t):PE X (.BoolOp op [a] pos) t:=λpins s σ H Q I hw=>BoolOp_one (h pins s σ H Q I hw)
theorem pe_or (ha:PE X a ta) (hb:PE X (.BoolOp .Or (b::rest) pos) tb):PE X (.BoolOp .Or (a::b::rest) pos) (tOrV ta tb):=by
 intro pins s σ H Q I h
 refine BoolOp_or (thn (ha pins s σ H _ I h) λv s1 ⟨x,H1,I1,r1,q1⟩=>?_)
 obtain⟨c,rfl,q1⟩:=q1
 cases r1
 refine wpAny_truthy_bool ?_
 cases c with
 |false=>exact hb pins s1 σ H1 Q I1 q1
 |true=>exact⟨.bl true,H1,I1,rfl,q1⟩
noncomputable def tIf (t:TT) (ta tb:TE):TE:=fun σ H Q=>t σ H λc H1=>if c=true then ta σ H1 Q else tb σ H1 Q
theorem Zfn {c:Expr} (hc:PT X c tA) (ha:PE X a ta) (hb:PE X b tb):PE X (.IfExp c a b pos) (tIf tA ta tb):=by
 intro pins s σ H Q I h
 refine wpAny_IfExp (thn (hc pins s σ H _ I h) λd s1 ⟨H1,I1,q1⟩=>?_)
 cases d with
 |true=>exact ha pins s1 σ H1 Q I1 q1
 |false=>exact hb pins s1 σ H1 Q I1 q1
end
noncomputable def SqL (K:PySem.W.Frag) (H:Hp) (a:Addr) (xs:List V):Prop :=
 Rd H a (.lst xs) \/
  ∃(o:Obj) (its:Array Value) (n:Nat),K.lookup a=some o/\o.cls=.type "list"/\o.dict=none/\o.data=.seq its n/\its.size<=sizeLine/\Vals xs its.toList
noncomputable def SqT (K:PySem.W.Frag) (H:Hp) (a:Addr) (xs:List V):Prop :=
 Rd H a (.tup xs) \/
  ∃(o:Obj) (its:Array Value) (n:Nat),K.lookup a=some o/\o.cls=.type "tuple"/\o.data=.seq its n/\its.size<=sizeLine/\Vals xs its.toList
noncomputable def absV:Value->Option V
 |.none=>some .non
 |.bool b=>some (.bl b)
 |.int i _=>some (.int i)
 |.str x _=>some (.str x)
 |.bytes b _=>some (.byt b)
 |.float b _=>some (.flt b)
 |.ref a=>some (.ref a)
 |.type n=>some (.ty n)
 |_=>none
theorem RelV.abs {x:V}{u:Value} (r:RelV x u):absV u=some x:=by
 cases x with
 |non=>cases r;rfl
 |bl _=>cases r;rfl
 |int _=>obtain⟨t,rfl⟩:=r;rfl
 |str _=>obtain⟨t,rfl⟩:=r;rfl
 |byt _=>obtain⟨t,rfl⟩:=r;rfl
 |flt _=>obtain⟨t,rfl⟩:=r;rfl
 |ref _=>cases r;rfl
 |ty _=>cases r;rfl
theorem RelV.inj {x y:V}{u:Value} (r:RelV x u) (q:RelV y u):x=y:=Yy (r.abs.symm.trans q.abs)
theorem Vals.inj:∀{xs ys:List V}{us:List Value},Vals xs us->Vals ys us->xs=ys
 |_,_,_,.nil,.nil=>rfl
 |_,_,_,.cons r t,.cons r' t'=>by rw[r.inj r',Vals.inj t t']
section
variable {X:Cx}{pins:List (Addr×Obj)}{σ:St}{H:Hp}{s:Shared}{a:Addr}{xs ys:List V}
theorem SqL.of {K:PySem.W.Frag} (h:H a=some (.lst xs)):SqL K H a xs:=.inl (.inl h)
theorem SqT.of {K:PySem.W.Frag} (h:H a=some (.tup xs)):SqT K H a xs:=.inl (.inl h)
theorem Inv.list (I:Inv X pins σ H s) (h:SqL X.K H a xs):∃its:List Value,Vals xs its/\PlainL s.heap a its.toArray/\xs.length<=sizeLine:=by
 rcases h with h|⟨o,its,n,hk,hc,hd,hs,hz,r⟩
 ·obtain⟨z,its,n,r,e⟩:=h.ok I.hok
  exact⟨its,r,⟨_,n,e,rfl,rfl,rfl⟩,z⟩
 ·refine⟨its.toList,r,⟨o,n,I.kIn a o hk,hc,hd,by simpa using hs⟩,?_⟩
  have e:=r.length
  simp only[YO]at e
  omega
theorem Inv.tuple (I:Inv X pins σ H s) (h:SqT X.K H a xs):∃its:List Value,Vals xs its/\IsTup s.heap a its.toArray/\xs.length<=sizeLine:=by
 rcases h with h|⟨o,its,n,hk,hc,hs,hz,r⟩
 ·obtain⟨z,its,r,p⟩:=h.ok I.hok
  exact⟨its,r,p,z⟩
 ·refine⟨its.toList,r,⟨o,I.kIn a o hk,hc,n,by simpa using hs⟩,?_⟩
  have e:=r.length
  simp only[YO]at e
  omega
theorem Inv.Zcy (I:Inv X pins σ H s) (h:SqL X.K H a xs) (h':SqL X.K H a ys):xs=ys:=by
 obtain⟨its,r,⟨o,n,e,_,_,d⟩,_⟩:=I.list h
 obtain⟨its',r',⟨o',n',e',_,_,d'⟩,_⟩:=I.list h'
 rw[e]at e';cases e'
 rw[d]at d'
 injection d' with d1 _
 have:its=its':=by simpa using congrArg Array.toList d1
 subst this
 exact r.inj r'
theorem Inv.ZfY (I:Inv X pins σ H s) (h:SqT X.K H a xs) (h':SqT X.K H a ys):xs=ys:=by
 obtain⟨its,r,⟨o,e,_,n,d⟩,_⟩:=I.tuple h
 obtain⟨its',r',⟨o',e',_,n',d'⟩,_⟩:=I.tuple h'
 rw[e]at e';cases e'
 rw[d]at d'
 injection d' with d1 _
 have:its=its':=by simpa using congrArg Array.toList d1
 subst this
 exact r.inj r'
end
noncomputable abbrev Cx.Zim (X:Cx) (E:Value->Shared->Prop):Cx:={X with xe:=E}
noncomputable abbrev Cx.nox (X:Cx):Cx:=X.Zim λ_ _=>False
theorem Cx.Ok.Zim {X:Cx} (ok:X.Ok) (E:Value->Shared->Prop):(X.Zim E).Ok :=
 ⟨ok.mod,ok.kind,ok.glob,ok.blt,ok.above,ok.inj,ok.has,ok.cab,ok.hd,ok.frames,ok.stk,ok.exf,ok.bs,ok.bsz,ok.noex,ok.exfs,ok.funs,ok.frf⟩
theorem Cx.Ok.Zdq {X:Cx}{E:Value->Shared->Prop} (ok:(X.Zim E).Ok):X.Ok :=
 ⟨ok.mod,ok.kind,ok.glob,ok.blt,ok.above,ok.inj,ok.has,ok.cab,ok.hd,ok.frames,ok.stk,ok.exf,ok.bs,ok.bsz,ok.noex,ok.exfs,ok.funs,ok.frf⟩
section
variable {X:Cx}{pins:List (Addr×Obj)}{σ:St}{H:Hp}{s:Shared}{E:Value->Shared->Prop}
theorem Inv.Zim (I:Inv X pins σ H s) (E:Value->Shared->Prop):Inv (X.Zim E) pins σ H s:=⟨I.ok.Zim E,I.os,I.bare,I.base,I.loc,I.cell,I.free,I.freeC,I.pin,I.hok,I.len⟩
theorem Inv.Zdq (I:Inv (X.Zim E) pins σ H s):Inv X pins σ H s:=⟨I.ok.Zdq,I.os,I.bare,I.base,I.loc,I.cell,I.free,I.freeC,I.pin,I.hok,I.len⟩
theorem SP.Zdq {D:Ends}{f:Flow}{s':Shared} (h:SP (X.Zim E) pins D f s'):SP X pins D f s':=by
 cases f with
 |next=>obtain⟨σ',H',I,q⟩:=h;exact⟨σ',H',I.Zdq,q⟩
 |brk=>obtain⟨σ',H',I,q⟩:=h;exact⟨σ',H',I.Zdq,q⟩
 |cont=>obtain⟨σ',H',I,q⟩:=h;exact⟨σ',H',I.Zdq,q⟩
 |ret u=>obtain⟨v,σ',H',I,r,q⟩:=h;exact⟨v,σ',H',I.Zdq,r,q⟩
end
section
variable {X:Cx}{st:Stmt}{rest:List Stmt}{t u:TS}{e:Expr}{te:TE}{pos:Pos}
noncomputable def tNext:TS:=λD σ H=>D.nx σ H
noncomputable def tSeq (t u:TS):TS:=λD σ H=>t {D with nx:=u D} σ H
theorem ZC:PSs X [] tNext:=λ_ _ σ H _ I h=>wpAny_execs_nil ⟨σ,H,I,h⟩
theorem Zd (h1:PS X st t) (h2:PSs X rest u):PSs X (st::rest) (tSeq t u):=by
 intro pins s σ H D I h
 refine wpAny_execs_cons (thn (h1 pins s σ H {D with nx:=u D} I h) λf s1 q=>?_)
 cases f with
 |next =>
  obtain⟨σ',H',I',q⟩:=q
  exact h2 pins s1 σ' H' D I' q
 |ret v=>exact q
 |brk=>exact q
 |cont=>exact q
theorem Zg (h1:PS X st t):PSs X [st] t:=by
 intro pins s σ H D I h
 refine wpAny_execs_cons (thn (h1 pins s σ H D I h) λf s1 q=>?_)
 cases f with
 |next=>exact wpAny_execs_nil q
 |ret v=>exact q
 |brk=>exact q
 |cont=>exact q
theorem Inv.quiet {pins:List (Addr×Obj)}{σ:St}{H:Hp}{s:Shared} (I:Inv X pins σ H s):interactive X.env=false:=by simp[interactive,I.ok.kind]
noncomputable def tDrop (te:TE):TS:=λD σ H=>te σ H λ_ H1=>D.nx σ H1
theorem ZN (he:PE X e te) (hs:swapsWith e none pos.line X.env=pure false:=by rfl):PS X (.Expr e pos) (tDrop te):=by
 intro pins s σ H D I h
 exact wpAny_Expr_any (thn (he pins s σ H _ I h) λv s1 ⟨x,H1,I1,r1,q1⟩=>⟨σ,H1,I1,q1⟩) I.quiet hs
noncomputable def tRet (te:TE):TS:=λD σ H=>te σ H D.rt
theorem Zs (he:PE X e te):PS X (.Return (some e) pos) (tRet te):=by
 intro pins s σ H D I h
 exact wpAny_Return_some (thn (he pins s σ H _ I h) λv s1 ⟨x,H1,I1,r1,q1⟩=>⟨x,σ,H1,I1,r1,q1⟩)
noncomputable def tIfS (c:TT) (t u:TS):TS:=λD σ H=>c σ H λb H1=>if b=true then t D σ H1 else u D σ H1
theorem Z9 {c:Expr}{a b:List Stmt}{tc:TT} (hc:PT X c tc) (ha:PSs X a t) (hb:PSs X b u):PS X (.If c a b pos) (tIfS tc t u):=by
 intro pins s σ H D I h
 refine wpAny_If (thn (hc pins s σ H _ I h) λd s1 ⟨H1,I1,q1⟩=>?_)
 cases d with
 |true=>exact ha pins s1 σ H1 D I1 q1
 |false=>exact hb pins s1 σ H1 D I1 q1
end
noncomputable abbrev TG:=V->St->Hp->(St->Hp->Prop)->Prop
noncomputable abbrev TGs:=List V->St->Hp->(St->Hp->Prop)->Prop
noncomputable def PG (X:Cx) (target:Expr) (t:TG):Prop :=
 ∀(pins:List (Addr×Obj)) (s:Shared) (σ:St) (H:Hp) (v:V) (u:Value) (Q:St->Hp->Prop),Inv X pins σ H s->RelV v u->t v σ H Q ->
  wpAny (model X.prog X.w) X.A (assign target X.env u) (λ_ s'=>∃σ' H',Inv X pins σ' H' s'/\Q σ' H') X.xe s
noncomputable def PGs (X:Cx) (ts:List Expr) (t:TGs):Prop :=
 ∀(pins:List (Addr×Obj)) (s:Shared) (σ:St) (H:Hp) (vs:List V) (us:List Value) (Q:St->Hp->Prop),Inv X pins σ H s->Vals vs us->t vs σ H Q ->
  wpAny (model X.prog X.w) X.A (assignInOrder ((assignEach ts X.env).map (·.2)) us) (λ_ s'=>∃σ' H',Inv X pins σ' H' s'/\Q σ' H') X.xe s
noncomputable abbrev TSet:=V->V->V->Hp->(Hp->Prop)->Prop
noncomputable def PSet (X:Cx) (t:TSet):Prop :=
 ∀(pins:List (Addr×Obj)) (s:Shared) (σ:St) (H:Hp) (o i v:V) (ov iv u:Value) (Q:Hp->Prop),Inv X pins σ H s->RelV o ov->RelV i iv->RelV v u->t o i v H Q ->
  wpAny (model X.prog X.w) X.A (setItem ov iv u) (λ_ s'=>∃H',Inv X pins σ H' s'/\Q H') X.xe s
noncomputable abbrev TIp:=V->V->Hp->VK->Prop
noncomputable def PIp (X:Cx) (op:Operator) (t:TIp):Prop :=
 ∀(pins:List (Addr×Obj)) (s:Shared) (σ:St) (H:Hp) (x y:V) (v u:Value) (Q:VK),Inv X pins σ H s->RelV x v->RelV y u->t x y H Q ->
  wpAny (model X.prog X.w) X.A (inplaceOp op v u) (EP X pins σ Q) X.xe s
section
variable {X:Cx}{pos:Pos}
noncomputable def gName (i:Nat):TG:=λv σ H Q=>Q (σ.set i (some v)) H
theorem Zl {i:Nat}{x:Str} (hN:X.N.Nodup) (hi:X.N[i]?=some x) (hx:Loc X.env.scope x) (hf:X.fn x=true\/X.env.scope.names.lookup x=some .local:=by first|exact .inl rfl|exact .inr rfl|assumption):PG X (.Name x pos) (gName i):=by
 intro pins s σ H v u Q I r h
 exact wpAny_assign_Name (Zhh I hN hi hx r (λs' I'=>⟨_,H,I',h⟩) hf)
noncomputable def gNil:TGs:=λvs σ H Q=>vs=[]/\Q σ H
noncomputable def gCons (t:TG) (u:TGs):TGs:=λvs σ H Q=>∃v r,vs=v::r/\t v σ H fun σ' H'=>u r σ' H' Q
theorem Za2:PGs X [] gNil:=by
 intro pins s σ H vs us Q I r h
 obtain⟨e,h⟩:=h
 subst e
 cases r
 exact assignInOrder_nil ⟨σ,H,I,h⟩
theorem ZE {e:Expr}{es:List Expr}{t:TG}{u:TGs} (h1:PG X e t) (h2:PGs X es u)
  (hs:(assignEach (e::es) X.env).map (·.2)=assign e X.env::(assignEach es X.env).map (·.2):=by rfl):PGs X (e::es) (gCons t u):=by
 intro pins s σ H vs us Q I r h
 obtain⟨v,vr,e1,h⟩:=h
 subst e1
 cases r with
 |cons r rr =>
  rw[hs]
  refine assignInOrder_cons (thn (h1 pins s σ H _ _ _ I r h) λ_ s1 ⟨σ1,H1,I1,q1⟩=>?_)
  exact h2 pins s1 σ1 H1 _ _ Q I1 rr q1
noncomputable def gTup (K:PySem.W.Frag) (n:Nat) (t:TGs):TG:=λv σ H Q=>∃a xs,v=.ref a/\SqT K H a xs/\xs.length=n/\t xs σ H Q
theorem ZcH {es:List Expr}{k:Nat}{t:TGs}{n:Nat} (hc:X.calm=true) (h:PGs X es t)
  (hn:(assignEach es X.env).length=n:=by rfl) (hst:(assignEach es X.env).findIdx? (·.1)=none:=by rfl):PG X (.Tuple es k pos) (gTup X.K n t):=by
 intro pins s σ H v u Q I r hw
 obtain⟨a,xs,e1,hq,hl,hw⟩:=hw
 subst e1
 cases r
 obtain⟨its,rv,ht,hz⟩:=I.tuple hq
 refine assign_Tuple_tuple (I.ok.hd hc) ht (by simp[hn,<-hl,rv.length]) hst λh' hx=>?_
 have I1:Inv X pins σ H {s with heap:=h'}:=I.kept (t':=s.toks) λb o e=>hx b o (Yl (Yj e)) e
 exact h pins _ σ H xs _ Q I1 (by simpa using rv) hw
noncomputable def gSub (to ti:TE) (t:TSet):TG:=λv σ H Q=>to σ H λo H1=>ti σ H1 λi H2=>t o i v H2 λH3=>Q σ H3
theorem ZeR {o i:Expr}{to ti:TE}{t:TSet} (ho:PE X o to) (hi:PE X i ti) (hs:PSet X t)
  (ha:∀v,assign (.Subscript o i pos) X.env v=(do
   let ov <-holding [v] (eval o X.env)
   let iv <-holding [v,ov] (eval i X.env)
   standAt pos
   holding [v,ov,iv] (setItem ov iv v)
   release [v,ov,iv] []):=by intro _;rfl):PG X (.Subscript o i pos) (gSub to ti t):=by
 intro pins s σ H v u Q I r h
 rw[ha]
 refine Ya (wpAny_holding (thn (ho pins s σ H _ I h) λov s1 ⟨x,H1,I1,r1,q1⟩=>?_))
 refine Ya (wpAny_holding (thn (hi pins s1 σ H1 _ I1 q1) λiv s2 ⟨y,H2,I2,r2,q2⟩=>?_))
 refine Ya (wpAny_standAt (Ya (wpAny_holding (thn (hs pins s2 σ H2 x y v ov iv u _ I2 r1 r2 r q2) λ_ s3 ⟨H3,I3,q3⟩=>?_))))
 exact wpAny_release ⟨σ,H3,I3,q3⟩
noncomputable def tAsg (te:TE) (g:TG):TS:=λD σ H=>te σ H λx H1=>g x σ H1 D.nx
theorem Zcj {tg e:Expr}{te:TE}{g:TG} (he:PE X e te) (hg:PG X tg g) (hs:swapsWithSole [tg] e pos.line X.env=pure false:=by rfl) (hw:swappedStores [tg] e X.env=pure none:=by rfl)
  (h1:(assignEach [tg] X.env).map (·.2)=[assign tg X.env]:=by rfl):PS X (.Assign [tg] e pos) (tAsg te g):=by
 intro pins s σ H D I h
 refine wpAny_Assign_stores (thn (he pins s σ H _ I h) λv s1 ⟨x,H1,I1,r1,q1⟩=>?_) hs hw
 rw[h1]
 exact thn (hg pins s1 σ H1 x v _ I1 r1 q1) λ_ s2 q=>q
theorem Zm {i:Nat}{x:Str}{e:Expr}{te:TE}{pos':Pos} (hN:X.N.Nodup) (hi:X.N[i]?=some x) (hx:Loc X.env.scope x) (he:PE X e te) (hs:swapsWith e (some (.Name x pos')) pos.line X.env=pure false:=by rfl) (hf:X.fn x=true\/X.env.scope.names.lookup x=some .local:=by first|exact .inl rfl|exact .inr rfl|assumption) :
  PS X (.Assign [.Name x pos'] e pos) (tAsg te (gName i)):=by
 intro pins s σ H D I h
 refine wpAny_Assign_Name (thn (he pins s σ H _ I h) λv s1 ⟨y,H1,I1,r1,q1⟩=>?_) hs
 exact Zhh I1 hN hi hx r1 (λs2 I2=>⟨_,H1,I2,q1⟩) hf
noncomputable def tAug (i:Nat) (te:TE) (ti:TIp):TS:=λD σ H=>∃x,σ[i]?=some (some x)/\te σ H λy H1=>ti x y H1 λz H2=>D.nx (σ.set i (some z)) H2
theorem Zdr {i:Nat}{x:Str}{e:Expr}{te:TE}{op:Operator}{ti:TIp}{pos':Pos} (hN:X.N.Nodup) (hi:X.N[i]?=some x) (hx:Loc X.env.scope x) (he:PE X e te) (ho:PIp X op ti) (hf:X.fn x=true\/X.env.scope.names.lookup x=some .local:=by first|exact .inl rfl|exact .inr rfl|assumption) :
  PS X (.AugAssign (.Name x pos') op e pos) (tAug i te ti):=by
 intro pins s σ H D I h
 obtain⟨v,e1,h⟩:=h
 obtain⟨m,hn,hl⟩:=I.loc
 have vis:Vis X.env.scope x:=by rcases hx with k|k;exact .inl k;exact .inr (.inl k)
 obtain⟨u,r,l⟩:=hl i x v hi e1 vis
 refine wpAny_AugAssign_Name ?_
 have go:wpAny (model X.prog X.w) X.A (eval e X.env) (λw s₂=>wpAny (model X.prog X.w) X.A (inplaceOp op u w) (λr s₃=>wpAny (model X.prog X.w) X.A (storeName X.env x r) (λ_=>SP X pins D .next) X.xe s₃) X.xe s₂) X.xe s:=by
  refine thn (he pins s σ H _ I h) λw s1 ⟨y,H1,I1,r1,q1⟩=>?_
  refine thn (ho pins s1 σ H1 v y u w _ I1 r r1 q1) λz s2 ⟨zv,H2,I2,r2,q2⟩=>?_
  exact Zhh I2 hN hi hx r2 (λs3 I3=>⟨_,H2,I3,q2⟩) hf
 rcases l with⟨hk,hm⟩|⟨hk,c,hc,hcell⟩
 ·exact wpAny_loadName_local I.ok.kind hk hn hm go
 ·rcases hk with hk|hk
  ·exact wpAny_loadName_cell I.ok.kind hk hc hcell go
  ·rcases hx with k|k
   ·have:X.env.scope.names.lookup x=some .free:=hk
    rw[k]at this;cases this
   ·have:X.env.scope.names.lookup x=some .free:=hk
    rw[k]at this;cases this
noncomputable def ipI (f:Int->Int->Int):TIp:=λx y H Q=>∃i j,x=.int i/\y=.int j/\Q (.int (f i j)) H
theorem Zjg:PIp X .Add (ipI λi j=>i+j):=by
 intro pins s σ H x y v u Q I r1 r2 h
 obtain⟨i,j,e1,e2,q⟩:=h
 subst e1;subst e2
 obtain⟨t,rfl⟩:=r1
 obtain⟨t',rfl⟩:=r2
 exact iadd_int ⟨.int _,H,I.tok _,⟨_,rfl⟩,q⟩
theorem ZnU:PIp X .Sub (ipI λi j=>i-j):=by
 intro pins s σ H x y v u Q I r1 r2 h
 obtain⟨i,j,e1,e2,q⟩:=h
 subst e1;subst e2
 obtain⟨t,rfl⟩:=r1
 obtain⟨t',rfl⟩:=r2
 exact isub_int ⟨.int _,H,I.tok _,⟨_,rfl⟩,q⟩
end
section
variable {X:Cx}{pos:Pos}
noncomputable def Zle (c:TT) (tb:TS):TS:=λD σ H=>∃W:Nat->St->Hp->Prop,(∃m,W m σ H)/\∀m σ H,W m σ H ->
 c σ H λb H1=>if b=true then ∃N:St->Hp->Prop,(∀σ' H',N σ' H'->∃m',m'<m/\W m' σ' H')/\tb {D with nx:=N,ct:=N,bk:=D.nx} σ H1 else D.nx σ H1
theorem Zhj {c:Expr}{body:List Stmt}{tc:TT}{tb:TS} (hp:PassesOwn (model X.prog X.w) X.A X.env X.xe) (hc:PT X c tc) (hb:PSs X body tb):PS X (.While c body [] pos) (Zle tc tb):=by
 intro pins s σ H D I h
 obtain⟨W,⟨m0,w0⟩,turn⟩:=h
 refine wpAny_While (codeAny_whileLoop (λn s'=>∃σ' H',Inv X pins σ' H' s'/\W n σ' H') ?_ m0 ⟨σ,H,I,w0⟩)
 rintro n s1 ⟨σ1,H1,I1,w1⟩
 refine wpAny_passesOwn hp (thn (hc pins s1 σ1 H1 _ I1 (turn n σ1 H1 w1)) λb s2 ⟨H2,I2,q2⟩=>?_)
 cases b with
 |true =>
  obtain⟨N,hN,q2⟩:=q2
  rw[Yc rfl]
  refine wpAny_passesOwn hp (thn (hb pins s2 σ1 H2 _ I2 q2) λf s3 q3=>?_)
  cases f with
  |next =>
   obtain⟨σ3,H3,I3,n3⟩:=q3
   obtain⟨m',hm,w3⟩:=hN σ3 H3 n3
   exact⟨m',hm,σ3,H3,I3,w3⟩
  |cont =>
   obtain⟨σ3,H3,I3,n3⟩:=q3
   obtain⟨m',hm,w3⟩:=hN σ3 H3 n3
   exact⟨m',hm,σ3,H3,I3,w3⟩
  |brk=>exact q3
  |ret v=>exact q3
 |false =>
  rw[Yb Yw]
  exact wpAny_execs_nil ⟨σ1,H2,I2,q2⟩
end
structure It where
 go:Nat->Hp->Prop
 yld:Nat->Hp->V->Hp->Prop
 stop:Nat->Hp->Prop
noncomputable def FpOk (X:Cx) (pins:List (Addr×Obj)) (H:Hp) (b:Addr):Prop :=
 H b=none/\b≠X.env.locals/\b∉X.fs/\(b∈X.ex\/X.s₀.heap.objs.size<=b)/\(∀x c,X.env.cells.lookup x=some c->c≠b)/\∀p∈X.pn++pins,p.1≠b
theorem Inv.Zjh {X:Cx}{pins:List (Addr×Obj)}{σ:St}{H H':Hp}{s:Shared}{b:Addr} (I:Inv X pins σ H s) (hb:s.heap.objs.size<=b) (hn:H' b=none):FpOk X pins H' b:=by
 refine⟨hn,Nat.ne_of_gt (Yu I.lt hb),I.nofs hb,.inr (Yf I.sz hb),λx c e z=>?_,λp hp z=>?_⟩
 ·obtain⟨v,q⟩:=I.cell x c e
  exact absurd (Yu q.lt (by rw[z];exact hb)) (YB _)
 ·exact absurd (Yu (Yj (I.pin p hp).1) (by rw[z];exact hb)) (YB _)
structure Turn (P:Program) (w:World) (K:PySem.W.Frag) (tg:Expr) (J:It) (fp:List Addr) (it:Addr) (tn:Nat->Heap->Prop):Prop where
 mem:it∈fp
 obj:∀i h,tn i h->∀b∈fp,∃o,h.get? b=some o/\∀v,o.data≠.cell v
 keep:∀i h h',tn i h->(∀b∈fp,∀o,h.get? b=some o->h'.get? b=some o)->tn i h'
 item:∀(X:Cx),X.prog=P->X.w=w->X.K=K->X.calm=true->∀(i:Nat) (pins:List (Addr×Obj)) (s:Shared) (σ:St) (H:Hp) (E:Value->Shared->Prop),Inv X pins σ H s->(∀b∈fp,FpOk X pins H b)->tn i s.heap->J.go i H ->
  wpAny (model P w) X.A (pyNext (.ref it)) (λr s1=>∃u,r=some u /\
   wpAny (model P w) X.A (letOwnedTupleGo tg (.ref it) u) (λ_ s2=>∃x H',Inv X pins σ H' s2/\RelV x u/\J.yld i H x H'/\tn (i+1) s2.heap/\∀b∈fp,H' b=none) E s1) E s
 done:∀(X:Cx),X.prog=P->X.w=w->X.K=K->X.calm=true->∀(i:Nat) (pins:List (Addr×Obj)) (s:Shared) (σ:St) (H:Hp) (E:Value->Shared->Prop),Inv X pins σ H s->(∀b∈fp,FpOk X pins H b)->tn i s.heap->J.stop i H ->
  wpAny (model P w) X.A (pyNext (.ref it)) (λr s1=>r=none/\Inv X pins σ H s1) E s
 self:∀(A:Around) (i:Nat) (s:Shared) (Q:Value->Shared->Prop) (E:Value->Shared->Prop),tn i s.heap->Q (.ref it) s->wpAny (model P w) A (pyIter (.ref it)) Q E s
noncomputable abbrev TI:=St->Hp->(It->Hp->Prop)->Prop
noncomputable def PIE (X:Cx) (pins:List (Addr×Obj)) (σ:St) (tg:Expr) (R:It->Hp->Prop) (itv:Value) (s2:Shared):Prop :=
 ∃(it:Addr) (fp:List Addr) (tn:Nat->Heap->Prop) (J:It) (H':Hp),itv=.ref it/\Inv X pins σ H' s2/\Turn X.prog X.w X.K tg J fp it tn/\tn 0 s2.heap/\(∀b∈fp,FpOk X pins H' b)/\R J H'
noncomputable def PI (X:Cx) (tg iter:Expr) (wi:TI):Prop :=
 ∀(pins:List (Addr×Obj)) (s:Shared) (σ:St) (H:Hp) (R:It->Hp->Prop),Inv X pins σ H s->wi σ H R ->
  wpAny (model X.prog X.w) X.A (eval iter X.env) (λv s1=>wpAny (model X.prog X.w) X.A (pyIter v) (PIE X pins σ tg R) X.xe s1) X.xe s
theorem Zl7 {M : Model} {A : Around} {E : Value → Shared → Prop} {s : Shared} {tg : Expr} {it : Addr} {u : Value} {o : Obj} {n : String} {vs : Array Value} {Q : Unit → Shared → Prop} (ho : s.heap.get? it = some o) (hc : o.cls = .type n) (hd : o.data = .fields vs)
    (hn : ["enumerate", "zip", "dict_itemiterator", "dict_reverseitemiterator", "odict_iterator", "itertools.zip_longest", "itertools.pairwise"].contains n = false) (hQ : Q () s) : wpAny M A (letOwnedTupleGo tg (.ref it) u) Q E s := by
  unfold letOwnedTupleGo
  cases tg <;> first
    | exact Ye hQ
    | (cases u <;> first
        | exact Ye hQ
        | (refine Ya (wpAny_load ho ?_)
           rw [hc, hd]
           show wpAny M A (if (["enumerate", "zip", "dict_itemiterator", "dict_reverseitemiterator", "odict_iterator", "itertools.zip_longest", "itertools.pairwise"].contains n && vs[0]? == some (rawInt _)) = true then _ else _) Q E s
           rw [Yb (by intro h; rw [hn, Bool.false_and] at h; cases h)]
           exact Ye hQ))
noncomputable def Itl (K:PySem.W.Frag) (a:Addr):It :=
 ⟨λi H=>∃xs x,SqL K H a xs/\xs[i]?=some x,λi H x H'=>H'=H/\∀xs,SqL K H a xs->xs[i]?=some x,λi H=>∃xs,SqL K H a xs/\xs.length<=i⟩
noncomputable def Itt (K:PySem.W.Frag) (a:Addr):It :=
 ⟨λi H=>∃xs x,SqT K H a xs/\xs[i]?=some x,λi H x H'=>H'=H/\∀xs,SqT K H a xs->xs[i]?=some x,λi H=>∃xs,SqT K H a xs/\xs.length<=i⟩
noncomputable def Itr (lo:Int) (n:Nat):It:=⟨λi _=>i<n,λi H x H'=>H'=H/\x=.int (lo+i),λi _=>n<=i⟩
theorem ZiC {P:Program}{w:World}{K:PySem.W.Frag}{tg:Expr} (a it:Addr):Turn P w K tg (Itl K a) [it] it (λi h=>h.IsListIter it a i) where
 mem:=by simp
 obj:=λi h st b hb=>by
  have e:b=it:=by simpa using hb
  subst e
  obtain⟨o,e,c,d⟩:=st
  exact⟨o,e,λv z=>by rw[d]at z;cases z⟩
 keep:=λi h h' st k=>st.at λo e=>k it (by simp) o e
 item:=by
  intro X hP hw hK hc i pins s σ H E I hf st hg
  subst hP hw hK
  obtain⟨xs,x,hq,hx⟩:=hg
  obtain⟨its,rv,p,hz⟩:=I.list hq
  obtain⟨u,hu,ru⟩:=rv.get hx
  obtain⟨f0,f1,f2,f3,f4,f5⟩:=hf it (by simp)
  refine wpAny_pyNext_list_item st p.isList (x:=u) (by simpa using hu) λh' st' sb=>?_
  have I1:Inv X pins σ H {s with heap:=h'}:=I.turned (t':=s.toks) (λb o hb e=>(sb.2 b hb).trans e) f0 f1 f3 f4 f5
  obtain⟨o,e,c,d⟩:=id st'
  exact⟨u,rfl,Zl7 (s:={s with heap:=h'}) e c d (by decide) ⟨x,H,I1,ru,⟨rfl,λys hy=>by rw[I.Zcy hy hq];exact hx⟩,st',λb hb=>(hf b hb).1⟩⟩
 done:=by
  intro X hP hw hK hc i pins s σ H E I hf st hg
  subst hP hw hK
  obtain⟨xs,hq,hx⟩:=hg
  obtain⟨its,rv,p,hz⟩:=I.list hq
  obtain⟨f0,f1,f2,f3,f4,f5⟩:=hf it (by simp)
  have hl:=rv.length
  exact wpAny_pyNext_list_end (I.ok.hd hc) st p.isList (by simp;omega) λh' eb=>⟨rfl,I.turned (t':=s.toks) (λb o hb e=>eb b o hb e) f0 f1 f3 f4 f5⟩
 self:=λ_ _ _ _ _ st h=>wpAny_pyIter_listiter st h
theorem Zhk {P:Program}{w:World}{K:PySem.W.Frag}{tg:Expr} (a it:Addr):Turn P w K tg (Itt K a) [it] it (λi h=>h.IsTupleIter it a i) where
 mem:=by simp
 obj:=λi h st b hb=>by
  have e:b=it:=by simpa using hb
  subst e
  obtain⟨o,e,c,d⟩:=st
  exact⟨o,e,λv z=>by rw[d]at z;cases z⟩
 keep:=λi h h' st k=>st.at λo e=>k it (by simp) o e
 item:=by
  intro X hP hw hK hc i pins s σ H E I hf st hg
  subst hP hw hK
  obtain⟨xs,x,hq,hx⟩:=hg
  obtain⟨its,rv,p,hz⟩:=I.tuple hq
  obtain⟨u,hu,ru⟩:=rv.get hx
  obtain⟨f0,f1,f2,f3,f4,f5⟩:=hf it (by simp)
  refine wpAny_pyNext_tuple_item st (show s.heap.IsTuple a its.toArray from p) (x:=u) (by simpa using hu) λh' st' sb=>?_
  have I1:Inv X pins σ H {s with heap:=h'}:=I.turned (t':=s.toks) (λb o hb e=>(sb.2 b hb).trans e) f0 f1 f3 f4 f5
  obtain⟨o,e,c,d⟩:=id st'
  exact⟨u,rfl,Zl7 (s:={s with heap:=h'}) e c d (by decide) ⟨x,H,I1,ru,⟨rfl,λys hy=>by rw[I.ZfY hy hq];exact hx⟩,st',λb hb=>(hf b hb).1⟩⟩
 done:=by
  intro X hP hw hK hc i pins s σ H E I hf st hg
  subst hP hw hK
  obtain⟨xs,hq,hx⟩:=hg
  obtain⟨its,rv,p,hz⟩:=I.tuple hq
  obtain⟨f0,f1,f2,f3,f4,f5⟩:=hf it (by simp)
  have hl:=rv.length
  exact wpAny_pyNext_tuple_end (I.ok.hd hc) st (show s.heap.IsTuple a its.toArray from p) (by simp;omega) λh' eb=>⟨rfl,I.turned (t':=s.toks) (λb o hb e=>eb b o hb e) f0 f1 f3 f4 f5⟩
 self:=λ_ _ _ _ _ st h=>wpAny_pyIter_tupleiter st h
theorem Zlf {P:Program}{w:World}{K:PySem.W.Frag}{tg:Expr} (it:Addr) (lo:Int) (n:Nat):Turn P w K tg (Itr lo n) [it] it (λi h=>IsRangeIter h it (lo+(i:Nat)*1) ((n:Int)-(i:Nat)) 1) where
 mem:=by simp
 obj:=λi h st b hb=>by
  have e:b=it:=by simpa using hb
  subst e
  exact⟨_,st,λv z=>by
   have z':Data.fields _=Data.cell v:=z
   cases z'⟩
 keep:=λi h h' st k=>k it (by simp) _ st
 item:=by
  intro X hP hw hK hc i pins s σ H E I hf st hg
  subst hP hw hK
  obtain⟨f0,f1,f2,f3,f4,f5⟩:=hf it (by simp)
  have W:=Walks.range (prog:=X.prog) (w:=X.w) (I.ok.hd hc) it lo 1 n
  refine W.item i s _ _ hg st λv h' tk hv st' kk=>?_
  obtain⟨t,rfl⟩:=hv
  have I1:Inv X pins σ H {s with heap:=h',toks:=tk}:=I.turned (λb o hb e=>kk b o (by simpa using hb) e) f0 f1 f3 f4 f5
  refine⟨_,rfl,Zl7 (s:={s with heap:=h',toks:=tk}) (n:="range_iterator") st' rfl rfl (by decide) ⟨.int (lo+i),H,I1,⟨t,?_⟩,⟨rfl,rfl⟩,st',λb hb=>(hf b hb).1⟩⟩
  rw[Int.mul_one]
 done:=by
  intro X hP hw hK hc i pins s σ H E I hf st hg
  subst hP hw hK
  obtain⟨f0,f1,f2,f3,f4,f5⟩:=hf it (by simp)
  exact wpAny_pyNext_range_end (I.ok.hd hc) st (by have:n<=i:=hg;omega) λh' eb=>⟨rfl,I.turned (t':=s.toks) (λb o hb e=>eb b o hb e) f0 f1 f3 f4 f5⟩
 self:=λ_ _ _ _ _ st h=>wpAny_pyIter_rangeiter st h
section
variable {X:Cx}{tg:Expr}
noncomputable def iList (K:PySem.W.Frag) (tl:TE):TI:=fun σ H R=>tl σ H λx H1=>∃a,x=.ref a/\(∃xs,SqL K H1 a xs)/\R (Itl K a) H1
noncomputable def iTup (K:PySem.W.Frag) (tl:TE):TI:=fun σ H R=>tl σ H λx H1=>∃a,x=.ref a/\(∃xs,SqT K H1 a xs)/\R (Itt K a) H1
theorem Zbf {l:Expr}{tl:TE} (hl:PE X l tl):PI X tg l (iList X.K tl):=by
 intro pins s σ H R I h
 refine thn (hl pins s σ H _ I h) λv s1 ⟨x,H1,I1,r1,q1⟩=>?_
 obtain⟨a,e,⟨xs,hq⟩,q⟩:=q1
 subst e
 cases r1
 obtain⟨its,rv,p,hz⟩:=I1.list hq
 refine wpAny_pyIter_list p.isList ?_
 refine⟨s1.heap.objs.size,[s1.heap.objs.size],_,_,H1,rfl,I1.kept (t':=s1.toks) λb o e=>Yk _ e,ZiC a _,⟨_,Yp _ rfl,rfl,rfl⟩,λb hb=>?_,q⟩
 have e:b=s1.heap.objs.size:=by simpa using hb
 subst e
 exact I1.Zjh (Yd _) (I1.hok.fresh (Yd _))
theorem pi_tup {l:Expr}{tl:TE} (hl:PE X l tl):PI X tg l (iTup X.K tl):=by
 intro pins s σ H R I h
 refine thn (hl pins s σ H _ I h) λv s1 ⟨x,H1,I1,r1,q1⟩=>?_
 obtain⟨a,e,⟨xs,hq⟩,q⟩:=q1
 subst e
 cases r1
 obtain⟨its,rv,p,hz⟩:=I1.tuple hq
 refine wpAny_pyIter_tuple (show s1.heap.IsTuple a its.toArray from p) ?_
 refine⟨s1.heap.objs.size,[s1.heap.objs.size],_,_,H1,rfl,I1.kept (t':=s1.toks) λb o e=>Yk _ e,Zhk a _,⟨_,Yp _ rfl,rfl,rfl⟩,λb hb=>?_,q⟩
 have e:b=s1.heap.objs.size:=by simpa using hb
 subst e
 exact I1.Zjh (Yd _) (I1.hok.fresh (Yd _))
theorem ZnV {pins:List (Addr×Obj)}{σ:St}{H:Hp}{s:Shared}{R:It->Hp->Prop}{E:Value->Shared->Prop}{lo hi:Int}{t u v:Tok}{tk:Nat} (I:Inv X pins σ H s) (h1:-(2 ^ 62)<=lo) (h2:lo<2 ^ 62) (h3:-(2 ^ 62)<=hi) (h4:hi<2 ^ 62)
  (q:R (Itr lo (hi-lo).toNat) H):wpAny (model X.prog X.w) X.A (pyIter (.ref s.heap.objs.size)) (PIE X pins σ tg R) E {s with heap:=s.heap.push {cls:=.type "range",data:=.fields #[.int lo t,.int hi u,.int 1 v]},toks:=tk}:=by
 refine wpAny_pyIter_range (IsRange.new ..) (small_one h1 h2 h3 h4) ?_
 have I1:Inv X pins σ H {s with heap:=s.heap.push {cls:=.type "range",data:=.fields #[.int lo t,.int hi u,.int 1 v]},toks:=tk}:=I.kept λb o e=>Yk _ e
 refine⟨(s.heap.push {cls:=.type "range",data:=.fields #[.int lo t,.int hi u,.int 1 v]}).objs.size,[(s.heap.push {cls:=.type "range",data:=.fields #[.int lo t,.int hi u,.int 1 v]}).objs.size],_,_,H,rfl,
  I1.kept (t':=tk) λb o e=>Yk _ e,Zlf _ lo (hi-lo).toNat,?_,λb hb=>?_,q⟩
 ·have e1:lo+((0:Nat):Int)*1=lo:=by simp
  have e2:(((hi-lo).toNat:Nat):Int)-((0:Nat):Int)=Builtin.Range.rangeSize lo hi 1:=by rw[rangeSize_one];split<;>omega
  show IsRangeIter _ _ (lo+((0:Nat):Int)*1) ((((hi-lo).toNat:Nat):Int)-((0:Nat):Int)) 1
  rw[e1,e2]
  exact Yp _ rfl
 ·have e:b=(s.heap.push {cls:=.type "range",data:=.fields #[.int lo t,.int hi u,.int 1 v]}).objs.size:=by simpa using hb
  subst e
  exact I1.Zjh (Yd _) (I1.hok.fresh (Yd _))
noncomputable def iRng1 (ta:TA):TI:=fun σ H R=>ta σ H λvs H1=>∃j:Int,vs=[.int j]/\-(2 ^ 62)<=j/\j<2 ^ 62/\R (Itr 0 j.toNat) H1
theorem ZZ {a:Expr}{ta:TA}{p pos:Pos} (hg:Gl X "range") (hm:X.mg "range"=none) (ha:PA X [a] ta) (hs:starEach [a] X.env=[(false,eval a X.env)]:=by rfl):PI X tg (.Call (.Name "range" p) [a] [] pos) (iRng1 ta):=by
 intro pins s σ H R I h
 refine Call_ (Zbc I hg hm boot_range (PyProof.Rows.callWith_type1 (thn (ha pos pins s σ H _ I h) λus s1 ⟨vs,H1,I1,r1,q1⟩=>?_) hs rfl))
 obtain⟨j,e,q1,q2,q⟩:=q1
 subst e
 cases r1 with
 |cons r rr =>
  cases rr
  obtain⟨t,rfl⟩:=r
  exact call_range_1 (ZnV I1 (by omega) (by omega) q1 q2 (by simpa using q))
noncomputable def tFor (wi:TI) (g:TG) (tb:TS):TS:=λD σ H=>wi σ H λJ H1=>∃W:Nat->Nat->St->Hp->Prop,(∃m,W 0 m σ H1)/\∀i m σ H,W i m σ H ->
 (J.stop i H/\D.nx σ H)\/(J.go i H/\∃N:St->Hp->Prop,(∀σ' H',N σ' H'->∃m',m'<m/\W (i+1) m' σ' H')/\∀x H',J.yld i H x H'->g x σ H' fun σ2 H2=>tb {D with nx:=N,ct:=N,bk:=D.nx} σ2 H2)
noncomputable def Zds (fp:List Addr) (h:Heap):List (Addr×Obj):=fp.filterMap λb=>(h.get? b).map λo=>(b,o)
theorem ZcI {fp:List Addr}{h:Heap}{b:Addr}{o:Obj} (hb:b∈fp) (e:h.get? b=some o):(b,o)∈Zds fp h:=List.mem_filterMap.mpr ⟨b,hb,by rw[e];rfl⟩
theorem ZiD {fp:List Addr}{h:Heap}{p:Addr×Obj} (hp:p∈Zds fp h):p.1∈fp/\h.get? p.1=some p.2:=by
 obtain⟨b,hb,e⟩:=List.mem_filterMap.mp hp
 cases q:h.get? b with
 |none=>rw[q]at e;cases e
 |some o =>
  rw[q]at e
  have e':(b,o)=p:=Yy e
  subst e'
  exact⟨hb,q⟩
theorem Inv.pinned {pins:List (Addr×Obj)}{σ:St}{H:Hp}{s:Shared}{fp:List Addr} (I:Inv X pins σ H s) (hf:∀b∈fp,FpOk X pins H b) (ho:∀b∈fp,∃o,s.heap.get? b=some o/\∀v,o.data≠.cell v):Inv X (pins++Zds fp s.heap) σ H s :=
 I.Za1 λp hp=>(Yz.mp hp).elim (λz=>I.pin p (Yq _ z)) λz=>by
  obtain⟨hb,e⟩:=ZiD z
  obtain⟨f0,f1,f2,_⟩:=hf p.1 hb
  obtain⟨o,e',d⟩:=ho p.1 hb
  rw[e]at e';cases e'
  exact⟨e,f0,f1,f2,d⟩
theorem Inv.Zdt {pins pl:List (Addr×Obj)}{σ:St}{H:Hp}{s:Shared} (I:Inv X (pins++pl) σ H s):Inv X pins σ H s:=I.Za1 λp hp=>I.pin p (Yq _ (YN _ hp))
theorem Zae {iter:Expr}{body:List Stmt}{wi:TI}{g:TG}{tb:TS}{pos:Pos} (hp:PassesOwn (model X.prog X.w) X.A X.env X.xe) (hc:X.calm=true) (hi:PI X tg iter wi) (hg:PG X tg g) (hb:PSs X body tb)
  (hs:∀x,foldedSetIterable iter X.env x=pure x:=by intro _;rfl):PS X (.For tg iter body [] pos) (tFor wi g tb):=by
 intro pins s σ H D I h
 refine wpAny_For (thn (hi pins s σ H _ I h) λv s1 h1=>thn h1 λitv s2 h2=>?_) hs
 obtain⟨it,fp,tn,J,H2,e,I2,T,st2,f2,W,⟨m0,w0⟩,turn⟩:=h2
 subst e
 -- what stays true of the iterator's objects through the loop
 have stat:∀{H':Hp},(∀b∈fp,H' b=none)->∀b∈fp,FpOk X pins H' b:=λhn b hb=>⟨hn b hb,(f2 b hb).2⟩
 refine codeAny_forLoop_any (λn s'=>∃i σ' H',Inv X pins σ' H' s'/\tn i s'.heap/\(∀b∈fp,H' b=none)/\W i n σ' H') ?_ m0 ⟨0,σ,H2,I2,st2,λb hb=>(f2 b hb).1,w0⟩
 rintro n s3 ⟨i,σ3,H3,I3,st3,fr3,w3⟩
 rcases turn i n σ3 H3 w3 with⟨stop,qn⟩|⟨go,N,hN,step⟩
 ·refine wpAny_passesOwn hp (thn (T.done X rfl rfl rfl hc i pins s3 σ3 H3 X.xe I3 (stat fr3) st3 stop) λr s4 ⟨hr,I4⟩=>?_)
  subst hr
  exact wpAny_execs_nil ⟨σ3,H3,I4,qn⟩
 ·refine wpAny_passesOwn hp (thn (T.item X rfl rfl rfl hc i pins s3 σ3 H3 X.xe I3 (stat fr3) st3 go) λr s4 ⟨u,hr,h4⟩=>?_)
  subst hr
  refine wpAny_passesOwn hp (thn h4 λ_ s5 ⟨x,H5,I5,r5,y5,st5,fr5⟩=>?_)
  have I5':=I5.pinned (stat fr5) (T.obj _ _ st5)
  refine wpAny_passesOwn hp (thn (hg _ s5 σ3 H5 x u _ I5' r5 (step x H5 y5)) λ_ s6 ⟨σ6,H6,I6,q6⟩=>?_)
  refine wpAny_passesOwn hp (thn (hb _ s6 σ6 H6 _ I6 q6) λf s7 q7=>?_)
  have again:∀{σ7:St}{H7:Hp},Inv X (pins++Zds fp s5.heap) σ7 H7 s7->N σ7 H7->∃m,m<n/\∃i σ' H',Inv X pins σ' H' s7/\tn i s7.heap/\(∀b∈fp,H' b=none)/\W i m σ' H':=λ{σ7 H7} I7 n7=>by
   obtain⟨m',hm,w7⟩:=hN σ7 H7 n7
   refine⟨m',hm,i+1,σ7,H7,I7.Zdt,T.keep _ _ _ st5 λb hb o e=>(I7.pin (b,o) (Yq _ (Yq _ (ZcI hb e)))).1,λb hb=>?_,w7⟩
   obtain⟨o,e,d⟩:=T.obj _ _ st5 b hb
   exact(I7.pin (b,o) (Yq _ (Yq _ (ZcI hb e)))).2.1
  cases f with
  |next=>obtain⟨σ7,H7,I7,n7⟩:=q7;exact again I7 n7
  |cont=>obtain⟨σ7,H7,I7,n7⟩:=q7;exact again I7 n7
  |brk=>obtain⟨σ7,H7,I7,q7⟩:=q7;exact⟨σ7,H7,I7.Zdt,q7⟩
  |ret v=>obtain⟨x7,σ7,H7,I7,r7,q7⟩:=q7;exact⟨x7,σ7,H7,I7.Zdt,r7,q7⟩
end
theorem ZnW {K:PySem.W.Frag}{a:Addr}{xs:List V}{g:TG}{tb:TS}{D:Ends}{σ:St}{H:Hp} (Pv:Nat->St->Hp->Prop) (h0:Pv 0 σ H) (hl:∀i σ H,i<=xs.length->Pv i σ H->SqL K H a xs)
  (hs:∀i x σ H,xs[i]?=some x->Pv i σ H->g x σ H fun σ2 H2=>tb {D with nx:=Pv (i+1),ct:=Pv (i+1),bk:=D.nx} σ2 H2) (hd:∀σ H,Pv xs.length σ H->D.nx σ H) :
  ∃W:Nat->Nat->St->Hp->Prop,(∃m,W 0 m σ H)/\∀i m σ H,W i m σ H ->
   ((Itl K a).stop i H/\D.nx σ H)\/((Itl K a).go i H/\∃N:St->Hp->Prop,(∀σ' H',N σ' H'->∃m',m'<m/\W (i+1) m' σ' H')/\∀x H',(Itl K a).yld i H x H'->g x σ H' fun σ2 H2=>tb {D with nx:=N,ct:=N,bk:=D.nx} σ2 H2):=by
 refine⟨λi m σ H=>m=xs.length-i/\i<=xs.length/\Pv i σ H,⟨xs.length,by simp,Ym _,h0⟩,?_⟩
 rintro i m σ H ⟨rfl,hi,p⟩
 have q:=hl i σ H hi p
 by_cases hlt:i<xs.length
 ·refine .inr ⟨⟨xs,xs[i],q,by simp[hlt]⟩,Pv (i+1),fun σ' H' p'=>⟨xs.length-(i+1),by omega,rfl,hlt,p'⟩,λx H' y=>?_⟩
  obtain⟨e,y⟩:=y
  subst e
  exact hs i x σ _ (y xs q) p
 ·have e:i=xs.length:=by omega
  subst e
  exact .inl ⟨⟨xs,q,Yd _⟩,hd σ H p⟩
theorem Zas {lo:Int}{n:Nat}{g:TG}{tb:TS}{D:Ends}{σ:St}{H:Hp} (Pv:Nat->St->Hp->Prop) (h0:Pv 0 σ H)
  (hs:∀i σ H,i<n->Pv i σ H->g (.int (lo+i)) σ H fun σ2 H2=>tb {D with nx:=Pv (i+1),ct:=Pv (i+1),bk:=D.nx} σ2 H2) (hd:∀σ H,Pv n σ H->D.nx σ H) :
  ∃W:Nat->Nat->St->Hp->Prop,(∃m,W 0 m σ H)/\∀i m σ H,W i m σ H ->
   ((Itr lo n).stop i H/\D.nx σ H)\/((Itr lo n).go i H/\∃N:St->Hp->Prop,(∀σ' H',N σ' H'->∃m',m'<m/\W (i+1) m' σ' H')/\∀x H',(Itr lo n).yld i H x H'->g x σ H' fun σ2 H2=>tb {D with nx:=N,ct:=N,bk:=D.nx} σ2 H2):=by
 refine⟨λi m σ H=>m=n-i/\i<=n/\Pv i σ H,⟨n,by simp,Ym _,h0⟩,?_⟩
 rintro i m σ H ⟨rfl,hi,p⟩
 by_cases hlt:i<n
 ·refine .inr ⟨hlt,Pv (i+1),fun σ' H' p'=>⟨n-(i+1),by omega,rfl,hlt,p'⟩,λx H' y=>?_⟩
  obtain⟨e,y⟩:=y
  subst e y
  exact hs i σ _ hlt p
 ·have e:i=n:=by omega
  subst e
  exact .inl ⟨Yd _,hd σ H p⟩
noncomputable abbrev R2:=V->V->Hp->VK->Prop
noncomputable def OpR (X:Cx) (f:Value->Value->Sem Value) (r:R2):Prop :=
 ∀(pins:List (Addr×Obj)) (s:Shared) (σ:St) (H:Hp) (x y:V) (v u:Value) (Q:VK),Inv X pins σ H s->RelV x v->RelV y u->r x y H Q ->
  wpAny (model X.prog X.w) X.A (f v u) (EP X pins σ Q) X.xe s
noncomputable def UnR (X:Cx) (f:Value->Sem Value) (r:V->Hp->VK->Prop):Prop :=
 ∀(pins:List (Addr×Obj)) (s:Shared) (σ:St) (H:Hp) (x:V) (v:Value) (Q:VK),Inv X pins σ H s->RelV x v->r x H Q ->
  wpAny (model X.prog X.w) X.A (f v) (EP X pins σ Q) X.xe s
noncomputable def Zbl (X:Cx) (f:Value) (r:List V->Hp->VK->Prop):Prop :=
 ∀(pins:List (Addr×Obj)) (s:Shared) (σ:St) (H:Hp) (xs:List V) (us:List Value) (Q:VK),Inv X pins σ H s->Vals xs us->r xs H Q ->
  wpAny (model X.prog X.w) X.A (call f us) (EP X pins σ Q) X.xe s
noncomputable def TruR (X:Cx) (r:V->Hp->(Bool->Hp->Prop)->Prop):Prop :=
 ∀(pins:List (Addr×Obj)) (s:Shared) (σ:St) (H:Hp) (x:V) (v:Value) (Q:Bool->Hp->Prop),Inv X pins σ H s->RelV x v->r x H Q ->
  wpAny (model X.prog X.w) X.A (truthy v) (TP X pins σ Q) X.xe s
noncomputable def tOp (r:R2) (ta tb:TE):TE:=fun σ H Q=>ta σ H λx H1=>tb σ H1 λy H2=>r x y H2 Q
noncomputable def tUn (r:V->Hp->VK->Prop) (ta:TE):TE:=fun σ H Q=>ta σ H λx H1=>r x H1 Q
noncomputable def rI (C:Int->Int->Prop) (g:Int->Int->V):R2:=λx y H Q=>∃i j,x=.int i/\y=.int j/\C i j/\Q (g i j) H
noncomputable def rI0 (g:Int->Int->V):R2:=λx y H Q=>∃i j,x=.int i/\y=.int j/\Q (g i j) H
noncomputable def rU (g:Int->V):V->Hp->VK->Prop:=λx H Q=>∃i,x=.int i/\Q (g i) H
section
variable {X:Cx}{a b c:Expr}{ta tb tc:TE}{pos:Pos}
theorem binT (ha:PE X a ta) (hb:PE X b tb) {pins:List (Addr×Obj)}{s:Shared}{σ:St}{H:Hp}{R:V->V->Hp->Prop} (I:Inv X pins σ H s)
  (h:ta σ H λx H1=>tb σ H1 λy H2=>R x y H2) {Q:Value->Shared->Prop}{f:Value->Value->Sem Value}
  (hf:∀v u s2 x y H2,Inv X pins σ H2 s2->RelV x v->RelV y u->R x y H2->wpAny (model X.prog X.w) X.A (f v u) Q X.xe s2) :
  wpAny (model X.prog X.w) X.A (eval a X.env) (λv s₁=>wpAny (model X.prog X.w) X.A (eval b X.env) (λu s₂=>wpAny (model X.prog X.w) X.A (f v u) Q X.xe s₂) X.xe s₁) X.xe s:=by
 refine thn (ha pins s σ H _ I h) λv s1 ⟨x,H1,I1,r1,q1⟩=>?_
 refine thn (hb pins s1 σ H1 _ I1 q1) λu s2 ⟨y,H2,I2,r2,q2⟩=>?_
 exact hf v u s2 x y H2 I2 r1 r2 q2
theorem Zq {op:Operator}{r:R2} (ho:OpR X (binaryOp op) r) (ha:PE X a ta) (hb:PE X b tb):PE X (.BinOp a op b pos) (tOp r ta tb):=by
 intro pins s σ H Q I h
 exact wpAny_BinOp (binT ha hb I h λv u s2 x y H2 I2 rx ry q=>ho pins s2 σ H2 x y v u Q I2 rx ry q)
theorem Zbm {op:UnaryOp}{r:V->Hp->VK->Prop} (ho:UnR X (unaryOp op) r) (ha:PE X a ta):PE X (.UnaryOp op a pos) (tUn r ta):=by
 intro pins s σ H Q I h
 exact UnaryOp_ (thn (ha pins s σ H _ I h) λv s1 ⟨x,H1,I1,r1,q1⟩=>ho pins s1 σ H1 x v Q I1 r1 q1)
theorem opI {f:Value->Value->Sem Value}{C:Int->Int->Prop}{g:Int->Int->Int}
  (rule:∀(i j:Int) (t u:Tok) (s:Shared) (Q:Value->Shared->Prop) (E:Value->Shared->Prop),C i j->Q (.int (g i j) s.toks) {s with toks:=s.toks+1}->wpAny (model X.prog X.w) X.A (f (.int i t) (.int j u)) Q E s) :
  OpR X f (rI C λi j=>.int (g i j)):=by
 intro pins s σ H x y v u Q I rx ry h
 obtain⟨i,j,rfl,rfl,hc,q⟩:=h
 obtain⟨t,rfl⟩:=rx
 obtain⟨t',rfl⟩:=ry
 exact rule i j t t' s _ _ hc ⟨.int (g i j),H,I.tok _,⟨_,rfl⟩,q⟩
theorem opI0 {f:Value->Value->Sem Value}{g:Int->Int->Int}
  (rule:∀(i j:Int) (t u:Tok) (s:Shared) (Q:Value->Shared->Prop) (E:Value->Shared->Prop),Q (.int (g i j) s.toks) {s with toks:=s.toks+1}->wpAny (model X.prog X.w) X.A (f (.int i t) (.int j u)) Q E s) :
  OpR X f (rI0 λi j=>.int (g i j)):=by
 intro pins s σ H x y v u Q I rx ry h
 obtain⟨i,j,rfl,rfl,q⟩:=h
 obtain⟨t,rfl⟩:=rx
 obtain⟨t',rfl⟩:=ry
 exact rule i j t t' s _ _ ⟨.int (g i j),H,I.tok _,⟨_,rfl⟩,q⟩
theorem opB0 {f:Value->Value->Sem Value}{g:Int->Int->Bool}
  (rule:∀(i j:Int) (t u:Tok) (s:Shared) (Q:Value->Shared->Prop) (E:Value->Shared->Prop),Q (.bool (g i j)) s->wpAny (model X.prog X.w) X.A (f (.int i t) (.int j u)) Q E s) :
  OpR X f (rI0 λi j=>.bl (g i j)):=by
 intro pins s σ H x y v u Q I rx ry h
 obtain⟨i,j,rfl,rfl,q⟩:=h
 obtain⟨t,rfl⟩:=rx
 obtain⟨t',rfl⟩:=ry
 exact rule i j t t' s _ _ ⟨.bl (g i j),H,I,rfl,q⟩
noncomputable def CPow (i j:Int):Prop:=0<=j/\j<=1000000/\i.natAbs<2 ^ 64
theorem ZaX:OpR X (binaryOp .Add) (rI0 λi j=>.int (i+j)):=opI0 λ_ _ _ _ _ _ _ q=>add_int q
theorem Zbd:OpR X (binaryOp .Sub) (rI0 λi j=>.int (i-j)):=opI0 λ_ _ _ _ _ _ _ q=>sub_int q
theorem ZeS:OpR X (binaryOp .Mod) (rI (λ_ j=>0<j) λi j=>.int (i % j)):=opI λi j _ _ _ _ _ hc q=>by
 have h1:(0:Int)<j:=hc
 exact mod_int' (by omega) (by rw[Int.fmod_eq_emod_of_nonneg i (by omega)];exact q)
theorem Zhl:OpR X (binaryOp .Pow) (rI CPow λi j=>.int (i ^ j.toNat)):=opI λ_ _ _ _ _ _ _ hc q=>pow_int_small hc.1 hc.2.1 hc.2.2 q
theorem unI {f:Value->Sem Value}{g:Int->Int}
  (rule:∀(i:Int) (t:Tok) (s:Shared) (Q:Value->Shared->Prop) (E:Value->Shared->Prop),Q (.int (g i) s.toks) {s with toks:=s.toks+1}->wpAny (model X.prog X.w) X.A (f (.int i t)) Q E s) :
  UnR X f (rU λi=>.int (g i)):=by
 intro pins s σ H x v Q I rx h
 obtain⟨i,rfl,q⟩:=h
 obtain⟨t,rfl⟩:=rx
 exact rule i t s _ _ ⟨.int (g i),H,I.tok _,⟨_,rfl⟩,q⟩
theorem ZaC:UnR X (unaryOp .USub) (rU λi=>.int (-i)):=unI λ_ _ _ _ _ q=>neg_int q
end
noncomputable def Zji:V->V->Bool
 |.non,.non=>true|.non,.int _=>true|.int _,.non=>true|.non,.bl _=>true|.bl _,.non=>true|.non,.str _=>true|.str _,.non=>true
 |.int _,.int _=>true|.bl _,.bl _=>true|.str _,.str _=>true|.byt _,.byt _=>true
 |.int _,.str _=>true|.str _,.int _=>true|.bl _,.str _=>true|.str _,.bl _=>true
 |_,_=>false
noncomputable def rEq:R2:=λx y H Q=>Zji x y=true/\Q (.bl (decide (x=y))) H
noncomputable def rNe:R2:=λx y H Q=>Zji x y=true/\Q (.bl (!decide (x=y))) H
theorem Zl8 {i j:Int}:decide (V.int i=V.int j)=(i==j):=by
 rw[Bool.eq_iff_iff]
 simp
theorem ZnX {i j:Bool}:decide (V.bl i=V.bl j)=(i==j):=by
 rw[Bool.eq_iff_iff]
 simp
theorem Zl9 {i j:Str}:decide (V.str i=V.str j)=(i==j):=by
 rw[Bool.eq_iff_iff]
 simp
theorem Zma {i j:Array UInt8}:decide (V.byt i=V.byt j)=(i.toList==j.toList):=by
 rw[Bool.eq_iff_iff]
 cases i
 cases j
 simp
section
variable {X:Cx}{a b c:Expr}{ta tb tc:TE}{pos:Pos}
theorem ZK {pins:List (Addr×Obj)}{σ:St}{H:Hp}{s:Shared}{Q:VK}{k k':Bool} (I:Inv X pins σ H s) (q:Q (.bl k) H) (e:k=k'):EP X pins σ Q (.bool k') s:=by
 subst e
 exact⟨.bl k,H,I,rfl,q⟩
theorem Zgr:OpR X (compareOp .Eq) rEq:=by
 intro pins s σ H x y v u Q I rx ry h
 obtain⟨hs,q⟩:=h
 cases x with
 |non =>
  cases rx
  cases y with
  |non=>cases ry;exact PySem.EqNone.eq_none_none (ZK I q (by simp))
  |bl j=>cases ry;exact PySem.EqNone.eq_none_bool (ZK I q (by simp))
  |int j=>obtain⟨t',rfl⟩:=ry;exact PySem.EqNone.eq_none_int (ZK I q (by simp))
  |str j=>obtain⟨t',rfl⟩:=ry;exact PySem.EqNone.eq_none_str (ZK I q (by simp))
  |_=>exact absurd (show false=true from hs) Yw
 |bl i =>
  cases rx
  cases y with
  |non=>cases ry;exact PySem.EqNone.eq_bool_none (ZK I q (by simp))
  |bl j=>cases ry;exact eq_bool (ZK I q ZnX)
  |str j=>obtain⟨t',rfl⟩:=ry;exact PySem.EqMixed.eq_bool_str (ZK I q (by simp))
  |_=>exact absurd (show false=true from hs) Yw
 |int i =>
  obtain⟨t,rfl⟩:=rx
  cases y with
  |non=>cases ry;exact PySem.EqNone.eq_int_none (ZK I q (by simp))
  |int j=>obtain⟨t',rfl⟩:=ry;exact eq_int (ZK I q Zl8)
  |str j=>obtain⟨t',rfl⟩:=ry;exact PySem.EqMixed.eq_int_str (ZK I q (by simp))
  |_=>exact absurd (show false=true from hs) Yw
 |str i =>
  obtain⟨t,rfl⟩:=rx
  cases y with
  |non=>cases ry;exact PySem.EqNone.eq_str_none (ZK I q (by simp))
  |bl j=>cases ry;exact PySem.EqMixed.eq_str_bool (ZK I q (by simp))
  |int j=>obtain⟨t',rfl⟩:=ry;exact PySem.EqMixed.eq_str_int (ZK I q (by simp))
  |str j=>obtain⟨t',rfl⟩:=ry;exact eq_str (ZK I q Zl9)
  |_=>exact absurd (show false=true from hs) Yw
 |byt i =>
  obtain⟨t,rfl⟩:=rx
  cases y with
  |byt j=>obtain⟨t',rfl⟩:=ry;exact PySem.W.eq_bytes (ZK I q Zma)
  |_=>exact absurd (show false=true from hs) Yw
 |_=>cases y<;>exact absurd (show false=true from hs) Yw
theorem Zke:OpR X (compareOp .NotEq) rNe:=by
 intro pins s σ H x y v u Q I rx ry h
 obtain⟨hs,q⟩:=h
 cases x with
 |non =>
  cases rx
  cases y with
  |non=>cases ry;exact PySem.EqNone.ne_none_none (ZK I q (by simp))
  |bl j=>cases ry;exact PySem.EqNone.ne_none_bool (ZK I q (by simp))
  |int j=>obtain⟨t',rfl⟩:=ry;exact PySem.EqNone.ne_none_int (ZK I q (by simp))
  |str j=>obtain⟨t',rfl⟩:=ry;exact PySem.EqNone.ne_none_str (ZK I q (by simp))
  |_=>exact absurd (show false=true from hs) Yw
 |bl i =>
  cases rx
  cases y with
  |non=>cases ry;exact PySem.EqNone.ne_bool_none (ZK I q (by simp))
  |bl j=>cases ry;exact ne_bool (ZK I q (congrArg not ZnX))
  |str j=>obtain⟨t',rfl⟩:=ry;exact PySem.EqMixed.ne_bool_str (ZK I q (by simp))
  |_=>exact absurd (show false=true from hs) Yw
 |int i =>
  obtain⟨t,rfl⟩:=rx
  cases y with
  |non=>cases ry;exact PySem.EqNone.ne_int_none (ZK I q (by simp))
  |int j=>obtain⟨t',rfl⟩:=ry;exact ne_int (ZK I q (congrArg not Zl8))
  |str j=>obtain⟨t',rfl⟩:=ry;exact PySem.EqMixed.ne_int_str (ZK I q (by simp))
  |_=>exact absurd (show false=true from hs) Yw
 |str i =>
  obtain⟨t,rfl⟩:=rx
  cases y with
  |non=>cases ry;exact PySem.EqNone.ne_str_none (ZK I q (by simp))
  |bl j=>cases ry;exact PySem.EqMixed.ne_str_bool (ZK I q (by simp))
  |int j=>obtain⟨t',rfl⟩:=ry;exact PySem.EqMixed.ne_str_int (ZK I q (by simp))
  |str j=>obtain⟨t',rfl⟩:=ry;exact ne_str (ZK I q (congrArg not Zl9))
  |_=>exact absurd (show false=true from hs) Yw
 |byt i =>
  obtain⟨t,rfl⟩:=rx
  cases y with
  |byt j=>obtain⟨t',rfl⟩:=ry;exact PySem.W.ne_bytes (ZK I q (congrArg not Zma))
  |_=>exact absurd (show false=true from hs) Yw
 |_=>cases y<;>exact absurd (show false=true from hs) Yw
theorem Zgs:OpR X (compareOp .Lt) (rI0 λi j=>.bl (decide (i<j))):=opB0 λ_ _ _ _ _ _ _ q=>lt_int q
theorem ZeF:OpR X (compareOp .LtE) (rI0 λi j=>.bl (decide (i<=j))):=opB0 λ_ _ _ _ _ _ _ q=>le_int q
theorem ZbY:OpR X (compareOp .Gt) (rI0 λi j=>.bl (decide (j<i))):=opB0 λ_ _ _ _ _ _ _ q=>gt_int q
theorem Zmb:OpR X (compareOp .GtE) (rI0 λi j=>.bl (decide (j<=i))):=opB0 λ_ _ _ _ _ _ _ q=>ge_int q
theorem op_isN:OpR X (compareOp .Is) (λx y H Q=>y=.non/\Q (.bl (decide (x=.non))) H):=by
 intro pins s σ H x y v u Q I rx ry h
 obtain⟨rfl,q⟩:=h
 cases ry
 refine is_none_gen (ZK I q ?_)
 cases x<;>first
  |(cases rx;rfl)
  |(obtain⟨t,rfl⟩:=rx;rfl)
theorem Zz (b:Expr) {op:CmpOp} (h:op≠.In:=by decide) (h2:op≠.NotIn:=by decide):behindInMarks op b=false:=by
 have e1:(op==CmpOp.In)=false:=by cases op<;>first|rfl|exact absurd rfl h
 have e2:(op==CmpOp.NotIn)=false:=by cases op<;>first|rfl|exact absurd rfl h2
 cases b<;>simp[behindInMarks,e1,e2]
theorem ZcJ {op:CmpOp}{r:R2} (ho:OpR X (compareOp op) r) (ha:PE X a ta) (hb:PE X b tb) (hm:behindInMarks op b=false):PE X (.Compare a [op] [b] pos) (tOp r ta tb):=by
 intro pins s σ H Q I h
 exact wpAny_Compare1 (binT ha hb I h λv u s2 x y H2 I2 rx ry q=>ho pins s2 σ H2 x y v u Q I2 rx ry q) hm
noncomputable def tTest (t:TE):TT:=fun σ H Q=>t σ H λx H'=>∃k,x=.bl k/\Q k H'
theorem Zx {op:CmpOp}{r:R2} (ho:OpR X (compareOp op) r) (ha:PE X a ta) (hb:PE X b tb) (hm:behindInMarks op b=false):PT X (.Compare a [op] [b] pos) (tTest (tOp r ta tb)):=by
 intro pins s σ H Q I h
 refine wpAny_isTrue_Compare1 (thn (ha pins s σ H _ I h) λv s1 ⟨x,H1,I1,r1,q1⟩=>thn (hb pins s1 σ H1 _ I1 q1) λu s2 ⟨y,H2,I2,r2,q2⟩ =>
  thn (ho pins s2 σ H2 x y v u _ I2 r1 r2 q2) λc s3 ⟨z,H3,I3,r3,k,e,q3⟩=>?_) hm
 subst e
 cases r3
 exact wpAny_truthy_bool ⟨H3,I3,q3⟩
noncomputable def tChain (r r':R2) (ta tb tc:TE):TE:=fun σ H Q=>ta σ H λx H1=>tb σ H1 λy H2=>r x y H2 λz H3=>∃k,z=.bl k /\
 (if k=true then tc σ H3 λw' H4=>r' y w' H4 Q else Q (.bl false) H3)
theorem ZnY {op op':CmpOp}{r r':R2} (ho:OpR X (compareOp op) r) (ho':OpR X (compareOp op') r') (ha:PE X a ta) (hb:PE X b tb) (hc:PE X c tc)
  (hm:lastMarks [op,op'] [b,c]=false:=by with_unfolding_all rfl):PE X (.Compare a [op,op'] [b,c] pos) (tChain r r' ta tb tc):=by
 intro pins s σ H Q I h
 refine Compare_chain (thn (ha pins s σ H _ I h) λv s1 ⟨x,H1,I1,r1,q1⟩=>chain_link (thn (hb pins s1 σ H1 _ I1 q1) λu s2 ⟨y,H2,I2,r2,q2⟩ =>
  thn (ho pins s2 σ H2 x y v u _ I2 r1 r2 q2) λd s3 ⟨z,H3,I3,r3,k,e,q3⟩=>?_)) hm
 subst e
 cases r3
 refine wpAny_truthy_bool ?_
 cases k with
 |false=>exact ite_ff ⟨.bl false,H3,I3,rfl,q3⟩
 |true=>exact ite_tt (chain_last (thn (hc pins s3 σ H3 _ I3 q3) λw' s4 ⟨z',H4,I4,r4,q4⟩=>ho' pins s4 σ H4 y z' u w' Q I4 r2 r4 q4))
theorem Zcz {op op':CmpOp}{r r':R2} (ho:OpR X (compareOp op) r) (ho':OpR X (compareOp op') r') (ha:PE X a ta) (hb:PE X b tb) (hc:PE X c tc)
  (hm:lastMarks [op,op'] [b,c]=false:=by with_unfolding_all rfl):PT X (.Compare a [op,op'] [b,c] pos) (tTest (tChain r r' ta tb tc)):=by
 intro pins s σ H Q I h
 refine isTrue_chain (thn (ha pins s σ H _ I h) λv s1 ⟨x,H1,I1,r1,q1⟩=>test_link (thn (hb pins s1 σ H1 _ I1 q1) λu s2 ⟨y,H2,I2,r2,q2⟩ =>
  thn (ho pins s2 σ H2 x y v u _ I2 r1 r2 q2) λd s3 ⟨z,H3,I3,r3,k,e,q3⟩=>?_)) hm
 subst e
 cases r3
 refine wpAny_truthy_bool ?_
 cases k with
 |false =>
  obtain⟨k',e',q'⟩:=q3
  cases e'
  exact ite_ff ⟨H3,I3,q'⟩
 |true =>
  refine ite_tt (test_last (thn (hc pins s3 σ H3 _ I3 q3) λw' s4 ⟨z',H4,I4,r4,q4⟩=>thn (ho' pins s4 σ H4 y z' u w' _ I4 r2 r4 q4) λd' s5 ⟨z2,H5,I5,r5,k2,e2,q5⟩=>?_))
  subst e2
  cases r5
  exact wpAny_truthy_bool ⟨H5,I5,q5⟩
noncomputable def TruV (K:PySem.W.Frag) (x:V) (H:Hp) (k:Bool):Prop :=
 match x with
 |.non=>k=false
 |.bl b=>k=b
 |.int i=>k=(i != 0)
 |.str y=>y.length<=sizeLine/\k=((y.length:Int) != 0)
 |.byt y=>y.size<=sizeLine/\k=((y.size:Int) != 0)
 |.ref p=>(∃xs,SqL K H p xs/\k=!xs.isEmpty)\/(∃xs,SqT K H p xs/\k=!xs.isEmpty)\/∃kvs,H p=some (.dK kvs)/\k=!kvs.isEmpty
 |_=>False
theorem Zlg {κ:Type}{kvs:List (κ×V)}{vs:List (κ×Value)} (r:KV kvs vs):(!vs.isEmpty)=!kvs.isEmpty:=by
 cases r<;>rfl
theorem Zhm {xs:List V}{its:List Value} (r:Vals xs its):(!its.toArray.isEmpty)=!xs.isEmpty:=by
 cases r<;>simp
theorem Zhn:(sizeLine:Nat)<2 ^ 63:=by rw[sizeLine_eq];decide
theorem tru_ok:TruR X (λx H Q=>∃k,TruV X.K x H k/\Q k H):=by
 intro pins s σ H x v Q I rx h
 obtain⟨k,e,q⟩:=h
 have hl:=Zhn
 have hs:sizeLine=16777216:=sizeLine_eq
 cases x with
 |non =>
  cases rx
  have e':k=false:=e
  subst e'
  exact truthy_none ⟨H,I,q⟩
 |bl b =>
  cases rx
  have e':k=b:=e
  subst e'
  exact wpAny_truthy_bool ⟨H,I,q⟩
 |int i =>
  obtain⟨t,rfl⟩:=rx
  have e':k=(i != 0):=e
  subst e'
  exact PySem.P.truthy_int ⟨H,I,q⟩
 |str y =>
  obtain⟨t,rfl⟩:=rx
  obtain⟨hy,e'⟩:y.length<=sizeLine/\k=((y.length:Int) != 0):=e
  subst e'
  exact PySem.P.truthy_str (by omega) ⟨H,I.tok _,q⟩
 |byt y =>
  obtain⟨t,rfl⟩:=rx
  obtain⟨hy,e'⟩:y.size<=sizeLine/\k=((y.size:Int) != 0):=e
  subst e'
  exact PySem.W.truthy_bytes (by omega) ⟨H,I.tok _,q⟩
 |ref p =>
  cases rx
  have e':(∃xs,SqL X.K H p xs/\k=!xs.isEmpty)\/(∃xs,SqT X.K H p xs/\k=!xs.isEmpty)\/∃kvs,H p=some (.dK kvs)/\k=!kvs.isEmpty:=e
  rcases e' with⟨xs,hx,e'⟩|⟨xs,hx,e'⟩|⟨kvs,hx,e'⟩
  ·subst e'
   obtain⟨its,r,pl,hz⟩:=I.list hx
   have hlen:=r.length
   exact wpAny_truthy_list pl.isList (by simp only[Yt];omega) ⟨H,I.tok _,by rw[Zhm r];exact q⟩
  ·subst e'
   obtain⟨its,r,pl,hz⟩:=I.tuple hx
   have hlen:=r.length
   exact truthy_tuple pl (by simp only[Yt];omega) ⟨H,I.tok _,by rw[Zhm r];exact q⟩
  ·subst e'
   obtain⟨hz,hS,vs,r,m⟩:kvs.length<=sizeLine/\(p==sysModules)=false/\∃vs,KV kvs vs/\s.heap.DictOf (Zay X.prog X.w) p vs:=I.hok p _ hx
   have hlen:kvs.length=vs.length:=Paired.length r
   exact wpAny_truthy_dict hS m (by omega) ⟨H,I.tok _,by rw[Zlg r];exact q⟩
 |_=>exact(show False from e).elim
theorem ZnZ (ha:PE X a ta) (he:∀whole,isTrue a X.env whole=(do let v <-whole;standAt a.pos;holding [v] (truthy v))) :
  PT X a (fun σ H Q=>ta σ H λx H'=>∃k,TruV X.K x H' k/\Q k H'):=by
 intro pins s σ H Q I h
 exact isTrue_plain (thn (ha pins s σ H _ I h) λv s1 ⟨x,H1,I1,r1,q1⟩=>tru_ok pins s1 σ H1 x v Q I1 r1 q1) (he _)
theorem vals1 {x:V}{us:List Value} (r:Vals [x] us):∃u,us=[u]/\RelV x u:=by
 cases r with
 |cons r1 r2=>cases r2;exact⟨_,rfl,r1⟩
theorem vals2 {x y:V}{us:List Value} (r:Vals [x,y] us):∃u w',us=[u,w']/\RelV x u/\RelV y w':=by
 cases r with
 |cons r1 r2 =>
  cases r2 with
  |cons r3 r4=>cases r4;exact⟨_,_,rfl,r1,r3⟩
theorem ZfZ (hc:X.calm=true):Zbl X (.builtin "max") (λxs H Q=>∃i j,xs=[.int i,.int j]/\Q (.int (if j>i then j else i)) H):=by
 intro pins s σ H xs us Q I r h
 obtain⟨i,j,rfl,q⟩:=h
 obtain⟨u,w',rfl,⟨t,rfl⟩,⟨t',rfl⟩⟩:=vals2 r
 refine max_two_ints (I.ok.hd hc) λh' tk k=>⟨_,H,I.kept k,?_,q⟩
 by_cases hj:j>i
 ·rw[Yc hj,Yc hj];exact⟨_,rfl⟩
 ·rw[Yb hj,Yb hj];exact⟨_,rfl⟩
theorem Zf0 (hc:X.calm=true):Zbl X (.builtin "min") (λxs H Q=>∃i j,xs=[.int i,.int j]/\Q (.int (if j<i then j else i)) H):=by
 intro pins s σ H xs us Q I r h
 obtain⟨i,j,rfl,q⟩:=h
 obtain⟨u,w',rfl,⟨t,rfl⟩,⟨t',rfl⟩⟩:=vals2 r
 refine min_two_ints (I.ok.hd hc) λh' tk k=>⟨_,H,I.kept k,?_,q⟩
 by_cases hj:j<i
 ·rw[Yc hj,Yc hj];exact⟨_,rfl⟩
 ·rw[Yb hj,Yb hj];exact⟨_,rfl⟩
theorem ZmI:Zbl X (.type "int") (λxs H Q=>(∃i,xs=[.int i]/\Q (.int i) H)\/∃k,xs=[.bl k]/\Q (.int (if k then 1 else 0)) H):=by
 intro pins s σ H xs us Q I r h
 rcases h with⟨i,rfl,q⟩|⟨k,rfl,q⟩
 ·obtain⟨u,rfl,t,rfl⟩:=vals1 r
  exact call_int_int ⟨.int i,H,I,⟨_,rfl⟩,q⟩
 ·obtain⟨u,rfl,r1⟩:=vals1 r
  cases r1
  exact call_int_bool ⟨.int (if k then 1 else 0),H,I.tok _,⟨_,rfl⟩,q⟩
end
structure ObjM (h:Heap) (x dx C:Addr) (mA:Str->Option Value):Prop where
 obj:h.get? x=some (PySem.W.instObj C dx)
 ns:h.Ns1 dx mA
 ne:dx≠x
theorem ZmJ {h:Heap}{dx:Addr}{mA:Str->Option Value} (n:h.Ns1 dx mA):∃od,h.get? dx=some od/\∀name,PySem.W.lookIn name od=some (mA name):=by
 obtain⟨o,es,ep,ho,hd,hk,_,hm⟩:=n
 refine⟨o,ho,λname=>?_⟩
 have e:=hm name
 unfold nsFind findBy at e
 rw[<-Array.find?_toList]at e
 unfold PySem.W.lookIn
 rw[hd]
 dsimp only
 split
 ·rename_i y q
  rw[q]at e
  exact congrArg some e
 ·rename_i q
  rw[q]at e
  have a:es.toList.any (·.refKey)=false:=by
   rw[List.any_eq_false]
   intro y hy
   obtain⟨z,t,hkey⟩:=hk y (Array.mem_toList_iff.mp hy)
   simp[DictEntry.refKey,hkey]
  have a':¬ es.toList.any (·.refKey)=true:=by rw[a];exact Yw
  rw[Yb a']
  exact congrArg some e
theorem ObjM.look {h:Heap}{x dx C:Addr}{mA:Str->Option Value} (I:ObjM h x dx C mA):∃od,PySem.W.InstAt h x (PySem.W.instObj C dx) C (some od)/\∀name,PySem.W.lookIn name od=some (mA name) :=
 let ⟨od,ho,hl⟩:=ZmJ I.ns
 ⟨od,⟨I.obj,rfl,rfl,ho⟩,hl⟩
section
variable {prog:Program}{w:World}{A:Around}{E:Value->Shared->Prop}{s:Shared}{K:PySem.W.Frag}{x dx C f:Addr}{mA:Str->Option Value}{name:Str}{v:Value}
theorem get_map {expr:Bool}{Q:Value->Shared->Prop} (X:K.In s.heap) (I:ObjM s.heap x dx C mA) (hg:PySem.W.plainGet K C name=true) (hh:PySem.W.hasDictIn K C=true)
  (ha:PySem.W.findIn K (.ref C) name=some none) (hv:mA name=some v) (hv':PySem.W.handedIn v=true) (h:Q v {s with toks:=s.toks+1}) :
  wpAny (model prog w) A (getAttr (.ref x) name expr) Q E s:=by
 obtain⟨od,J,hl⟩:=I.look
 exact PySem.W.get_value X J (PySem.W.plainGet_of hg).1 (PySem.W.findObj_own hh ha rfl (by rw[hl,hv])) hv' h
theorem Zn0 {pl:Sem Bool}{Q:Value×List Value->Shared->Prop} (X:K.In s.heap) (I:ObjM s.heap x dx C mA) (hg:PySem.W.plainGet K C name=true)
  (hf:PySem.W.findIn K (.ref C) name=some (some (.ref f))) (ht:PySem.W.isFn K (.ref f)=true) (hv:mA name=none) (h:Q (.ref f,[.ref x]) s) :
  wpAny (model prog w) A (getMethod (.ref x) name pl) Q E s:=by
 obtain⟨od,J,hl⟩:=I.look
 exact PySem.W.method_fn X J (PySem.W.plainGet_of hg).1 (PySem.W.plainGet_of hg).2 hf (beq_iff_eq.mp ht) (by show(PySem.W.lookIn name od).map (·.isSome)=some false;rw[hl,hv];rfl) h
theorem Zqh {ns:List Str}{Q:Unit->Shared->Prop} (X:K.In s.heap) (I:ObjM s.heap x dx C mA)
  (hs:PySem.W.findIn K (.ref C) "__setattr__"=some (some (.builtin "object.__setattr__"))) (hp:PySem.W.plainOver K C=true) (ht:PySem.W.takerIn K C name=some none) (hh:PySem.W.hasDictIn K C=true)
  (hw:PySem.Within mA ns) (hsz:ns.length<=sizeLine)
  (h:∀h',ObjM h' x dx C (λy=>if y=name then some v else mA y)->Heap.SameBut dx s.heap h'->Q () {s with heap:=h',toks:=s.toks+2}) :
  wpAny (model prog w) A (setAttr (.ref x) name v) Q E s:=by
 obtain⟨od,J,hl⟩:=I.look
 refine PySem.W.set_plain X J hs (PySem.W.osa_open (s:={s with toks:=s.toks+1}) (r:=none) X J hp ht λb=>?_)
 obtain⟨cd,hc,hd'⟩:=PySem.W.any_some hh
 have hx:s.heap.get? x=some ⟨.ref C,some dx,.plain,#[]⟩:=I.obj
 refine Ya (Ye (Ya (Ya (wpAny_loadPart hx (Ya (PySem.W.Looks.here (s:={s with toks:=s.toks+1}) (PySem.W.looks_clsIn X hc) ?_))))))
 rw[hd']
 refine Ye (a:=some dx) (Ya (Ye (Ya ?_)))
 refine wpAny_nsSet1 (s:={s with toks:=s.toks+1}) I.ns λh' hn2 hs2=>?_
 obtain⟨oD,esD,epD,hoD,hdD,hcD⟩:=hn2.count (PySem.Within.cons name v hw)
 refine Ya (wpAny_lookBehind hoD (by rw[hdD];exact pastItsLine_dict (Yf hcD (by rw[Yn];omega))) ?_)
 exact Ye (h _ ⟨(hs2.2 _ (Ne.symm I.ne)).trans I.obj,hn2,I.ne⟩ hs2)
theorem Zn1 {R:Result->Shared->Prop}{vs:List Value}{kw:List (Str×Value)} (X:K.In s.heap) (hm:PySem.W.makesIn K C=true)
  (hi:PySem.W.findIn K (.ref C) "__init__"=some (some (.ref f))) (hf:PySem.W.typeIn K (.ref f)=some (.type "function"))
  (h:codeAny (model prog w) (A.under (.builtin "type.__call__" ⟨.ref C::vs,kw⟩)) (.call (.ref f) ⟨.ref (s.heap.objs.size+1)::vs,kw⟩) (PySem.W.InitBack (s.heap.objs.size+1) R)
   {s with heap:=(s.heap.push PySem.W.emptyDict).push (PySem.W.instObj C s.heap.objs.size)}) :
  codeAny (model prog w) A (.call (.ref C) ⟨vs,kw⟩) R s:=by
 obtain⟨hh,g,d,t,os⟩:=s
 exact PySem.W.make_core (PySem.W.makes_of X hm) (PySem.W.looks_findIn X hi) (λself=>PySem.W.bind_fn X self hf) (.inl rfl) h
end
noncomputable def ZaY (f:Str) (v:V):List (Str×V)->List (Str×V)
 |[]=>[(f,v)]
 |(g,x)::r=>if g=f then (g,v)::r else (g,x)::ZaY f v r
theorem Zbn (f g:Str) (v:V):∀fs:List (Str×V),(ZaY f v fs).lookup g=if g=f then some v else fs.lookup g
 |[]=>by
  show List.lookup g [(f,v)]=_
  by_cases h:g=f
  ·have hb:(g==f)=true:=beq_iff_eq.mpr h
   simp only[List.lookup,hb,Yc h]
  ·have hb:(g==f)=false:=beq_eq_false_iff_ne.mpr h
   simp only[List.lookup,hb,Yb h]
 |(k,x)::r=>by
  have ih:=Zbn f g v r
  rw[show ZaY f v ((k,x)::r)=(if k=f then (k,v)::r else (k,x)::ZaY f v r)from rfl]
  by_cases hk:k=f
  ·rw[Yc hk]
   by_cases h:g=k
   ·have hb:(g==k)=true:=beq_iff_eq.mpr h
    simp only[List.lookup,hb,Yc (h.trans hk)]
   ·have hb:(g==k)=false:=beq_eq_false_iff_ne.mpr h
    simp only[List.lookup,hb,Yb (λe:g=f=>h (e.trans hk.symm))]
  ·rw[Yb hk]
   by_cases h:g=k
   ·have hb:(g==k)=true:=beq_iff_eq.mpr h
    simp only[List.lookup,hb,Yb (λe:g=f=>hk (h.symm.trans e))]
   ·have hb:(g==k)=false:=beq_eq_false_iff_ne.mpr h
    simp only[List.lookup,hb]
    exact ih
theorem Zf1 (f:Str) (v:V):∀fs:List (Str×V),f∈(ZaY f v fs).map (·.1)/\∀g,g∈fs.map (·.1)->g∈(ZaY f v fs).map (·.1)
 |[]=>⟨by simp[ZaY],λg h=>by simp at h⟩
 |(k,x)::r=>by
  obtain⟨i1,i2⟩:=Zf1 f v r
  rw[show ZaY f v ((k,x)::r)=(if k=f then (k,v)::r else (k,x)::ZaY f v r)from rfl]
  by_cases hk:k=f
  ·rw[Yc hk]
   subst hk
   exact⟨by simp,λg h=>by simpa using h⟩
  ·rw[Yb hk]
   refine⟨?_,λg h=>?_⟩
   ·rw[YA]
    exact YK _ i1
   ·rw[YA]at h⊢
    rcases Yo.mp h with e|e
    ·exact Yo.mpr (.inl e)
    ·exact YK _ (i2 g e)
theorem ZaD (f:Str) (v:V):∀fs:List (Str×V),(ZaY f v fs).length<=fs.length+1
 |[]=>by simp[ZaY]
 |(k,x)::r=>by
  have ih:=ZaD f v r
  rw[show ZaY f v ((k,x)::r)=(if k=f then (k,v)::r else (k,x)::ZaY f v r)from rfl]
  by_cases hk:k=f
  ·rw[Yc hk,Yn,Yn];omega
  ·rw[Yb hk,Yn,Yn];omega
theorem Zdp.some_of {v:V}{o:Option Value} (r:Zdp (some v) o):∃u,o=some u/\RelV v u:=by
 cases o with
 |none=>exact(show False from r).elim
 |some u=>exact⟨u,rfl,r⟩
theorem Zdp.none_of {o:Option Value} (r:Zdp none o):o=none:=by
 cases o with
 |none=>rfl
 |some u=>exact(show False from r).elim
theorem ZmK {v:V}{u:Value} (r:RelV v u):PySem.W.handedIn u=true:=by
 cases v with
 |non=>cases(show u=Value.none from r);rfl
 |bl b=>cases(show u=Value.bool b from r);rfl
 |int i=>obtain⟨t,e⟩:=(show ∃t,u=Value.int i t from r);cases e;rfl
 |str x=>obtain⟨t,e⟩:=(show ∃t,u=Value.str x t from r);cases e;rfl
 |byt b=>obtain⟨t,e⟩:=(show ∃t,u=Value.bytes b t from r);cases e;rfl
 |flt b=>obtain⟨t,e⟩:=(show ∃t,u=Value.float b t from r);cases e;rfl
 |ref a=>cases(show u=Value.ref a from r);rfl
 |ty n=>cases(show u=Value.type n from r);rfl
section
variable {P:Program}{w:World}{H H':Hp}{h h':Heap}{a C dx:Addr}{fs fs':List (Str×V)}
theorem Zhb (hok:HOk P w H h) (e:H a=some (.ins C dx fs)):∃mA,ObjM h a dx C mA/\(∀f,Zdp (fs.lookup f) (mA f))/\PySem.Within mA (fs.map (·.1))/\fs.length<=1000/\H dx=some (.own a):=by
 obtain⟨d,z,ne,ob,mA,n,r,q⟩:=(show ZW P w H h a (.ins C dx fs)from hok a _ e)
 exact⟨mA,⟨ob,n,ne⟩,r,q,z,d⟩
end
structure Cls (K:PySem.W.Frag) (C:Addr):Prop where
 pg:PySem.W.plainGet K C Str.empty=true
 hd:PySem.W.hasDictIn K C=true
 po:PySem.W.plainOver K C=true
 sa:PySem.W.findIn K (.ref C) "__setattr__"=some (some (.builtin "object.__setattr__"))
theorem Cls.get {K:PySem.W.Frag}{C:Addr} (c:Cls K C) (f:Str):PySem.W.plainGet K C f=true:=c.pg
noncomputable def NoAttr (K:PySem.W.Frag) (C:Addr) (f:Str):Prop:=PySem.W.findIn K (.ref C) f=some none
theorem NoAttr.taker {K:PySem.W.Frag}{C:Addr}{f:Str} (n:NoAttr K C f):PySem.W.takerIn K C f=some none:=by
 unfold PySem.W.takerIn
 rw[show PySem.W.findIn K (.ref C) f=some none from n]
 rfl
structure Meth (K:PySem.W.Frag) (C:Addr) (m:Str) (f:Addr):Prop where
 at_:PySem.W.findIn K (.ref C) m=some (some (.ref f))
 fn:PySem.W.isFn K (.ref f)=true
 kp:PySem.W.keepIn K (.ref f)=true
section
variable {X:Cx}{pins:List (Addr×Obj)}{σ:St}{H:Hp}{s:Shared}{a C dx:Addr}{fs:List (Str×V)}{f:Str}{v:V}{A:Around}{E:Value->Shared->Prop}
theorem Zlh {b:Bool}{Q:Value->Shared->Prop} (I:Inv X pins σ H s) (e:H a=some (.ins C dx fs)) (c:Cls X.K C) (n:NoAttr X.K C f) (l:fs.lookup f=some v)
  (h:∀u s',Inv X pins σ H s'->RelV v u->Q u s'):wpAny (model X.prog X.w) A (getAttr (.ref a) f b) Q E s:=by
 obtain⟨mA,O,r,_,_,_⟩:=Zhb I.hok e
 obtain⟨u,hu,ru⟩:=Zdp.some_of (v:=v) (o:=mA f) (by rw[<-l];exact r f)
 exact get_map I.kIn O (c.get f) c.hd n hu (ZmK ru) (h u _ (I.tok _) ru)
theorem Zho {m:Str}{g:Addr}{pl:Sem Bool}{Q:Value×List Value->Shared->Prop} (I:Inv X pins σ H s) (e:H a=some (.ins C dx fs)) (c:Cls X.K C) (k:Meth X.K C m g) (l:fs.lookup m=none)
  (h:Q (.ref g,[.ref a]) s):wpAny (model X.prog X.w) A (getMethod (.ref a) m pl) Q E s:=by
 obtain⟨mA,O,r,_,_,_⟩:=Zhb I.hok e
 have hn:mA m=none:=Zdp.none_of (by rw[<-l];exact r m)
 exact Zn0 I.kIn O (c.get m) k.at_ k.fn hn h
theorem Zli {y:V}{u:Value}{Q:Unit->Shared->Prop} (I:Inv X pins σ H s) (e:H a=some (.ins C dx fs)) (c:Cls X.K C) (n:NoAttr X.K C f) (hl:fs.length<1000) (ry:RelV y u)
  (h:∀s',Inv X pins σ (upd H a (.ins C dx (ZaY f y fs))) s'->Q () s'):wpAny (model X.prog X.w) A (setAttr (.ref a) f u) Q E s:=by
 obtain⟨mA,O,r,wi,_,ho⟩:=Zhb I.hok e
 have hz:(fs.map (·.1)).length<=sizeLine:=by rw[Yi,sizeLine_eq];omega
 refine Zqh I.kIn O c.sa c.po n.taker c.hd wi hz λh' O' sb=>h _ ?_
 have hd:∃o,h'.get? dx=some o:=let ⟨o,_,_,e',_⟩:=O'.ns;⟨o,e'⟩
 refine I.write (x:=a) (e:=dx) (by rw[e];exact True.intro) (.inr ho) (λb q hb z=>(sb.2 b hb).trans z) hd ?_
 refine⟨by rw[Zh O.ne];exact ho,?_,O.ne,O'.obj,_,O'.ns,λg=>?_,λg hg=>?_⟩
 ·have:=ZaD f y fs;omega
 ·show Zdp ((ZaY f y fs).lookup g) (if g=f then some u else mA g)
  rw[Zbn]
  by_cases q:g=f
  ·rw[Yc q,Yc q];exact ry
  ·rw[Yb q,Yb q];exact r g
 ·by_cases q:g=f
  ·rw[q];exact(Zf1 f y fs).1
  ·refine(Zf1 f y fs).2 g (wi g λz=>hg ?_)
   show(if g=f then some u else mA g)=none
   rw[Yb q];exact z
theorem Inv.made (I:Inv X pins σ H s):Inv X pins σ (upd (upd H s.heap.objs.size (.own (s.heap.objs.size+1))) (s.heap.objs.size+1) (.ins C s.heap.objs.size []))
  {s with heap:=(s.heap.push PySem.W.emptyDict).push (PySem.W.instObj C s.heap.objs.size)}:=by
 have e1:(s.heap.push PySem.W.emptyDict).get? s.heap.objs.size=some PySem.W.emptyDict:=Yp s.heap rfl
 have e2:((s.heap.push PySem.W.emptyDict).push (PySem.W.instObj C s.heap.objs.size)).get? (s.heap.objs.size+1)=some (PySem.W.instObj C s.heap.objs.size):=by
  have:=Yp (s.heap.push PySem.W.emptyDict) (o:=PySem.W.instObj C s.heap.objs.size) rfl
  rwa [Heap.size_push]at this
 have e3:(s.heap.push PySem.W.emptyDict).Ns s.heap.objs.size (λ_=>none):=⟨PySem.W.emptyDict,#[],_,e1,rfl,(λe he=>absurd he (by simp)),λ_=>rfl⟩
 have I1:=I.laid (a:=s.heap.objs.size) (o:=.own (s.heap.objs.size+1)) (h':=s.heap.push PySem.W.emptyDict) (t':=s.toks) (λb u q=>Yk _ q) (Yd _) ⟨_,e1⟩
 refine I1.laid (a:=s.heap.objs.size+1) (o:=.ins C s.heap.objs.size []) (t':=s.toks) (λb u q=>Yk _ q) (Y5 (Heap.size_push _ _)) ?_
 have ne:s.heap.objs.size≠s.heap.objs.size+1:=Yl (Nat.lt_succ_self _)
 refine⟨by rw[Zh ne,Zb],Ym _,ne,e2,λ_=>none,(Heap.Ns1.of_empty e3).at λo q=>Yk _ q,λ_=>True.intro,λy hy=>absurd rfl hy⟩
theorem Zqi {prog:Program}{w:World}{env:Env}{e:Expr}{f:Str}{pos:Pos}{s:Shared}{Q:Value->Shared->Prop} (hb:attributeBase e f env (eval e env)=eval e env)
  (h:wpAny (model prog w) A (eval e env) (λo s₁=>wpAny (model prog w) A (getAttr o f true) Q E s₁) E s):wpAny (model prog w) A (eval (.Attribute e f pos) env) Q E s :=
 Attribute_any_ h (by rw[arm_eval_Attribute,hb])
end
section
variable {X:Cx}{pins:List (Addr×Obj)}{σ:St}{H:Hp}{s:Shared}{A:Around}{E:Value->Shared->Prop}{Q:Value->Shared->Prop}{c:Value}{b:Bool}
inductive TyOf (K:PySem.W.Frag) (H:Hp):V->Value->Prop where
 |non:TyOf K H .non (.type "NoneType")
 |bl (x:Bool):TyOf K H (.bl x) (.type "bool")
 |int (i:Int):TyOf K H (.int i) (.type "int")
 |str (x:Str):TyOf K H (.str x) (.type "str")
 |flt (x:UInt64):TyOf K H (.flt x) (.type "float")
 |lst {a:Addr}{xs:List V} (e:H a=some (.lst xs)):TyOf K H (.ref a) (.type "list")
 |frz {a:Addr}{o:Obj}{xs:List V} (e:H a=some (.frz o (.lst xs))):TyOf K H (.ref a) (.type "list")
 |tup {a:Addr}{xs:List V} (e:H a=some (.tup xs)):TyOf K H (.ref a) (.type "tuple")
 |dK {a:Addr}{kvs:List (Key×V)} (e:H a=some (.dK kvs)):TyOf K H (.ref a) (.type "dict")
 |dT {a:Addr}{kvs:List (List Key×V)} (e:H a=some (.dT kvs)):TyOf K H (.ref a) (.type "dict")
 |ins {a C dx:Addr}{fs:List (Str×V)} (e:H a=some (.ins C dx fs)) (cl:Cls K C) (ha:PySem.W.findIn K (.ref C) "__class__"=some (some (.builtin "object.__class__")))
   (hn:PySem.W.specialIn K (.builtin "object.__class__") "__get__"=some (some (.builtin "getset_descriptor.__get__"))) (htk:PySem.W.takesIn K (.builtin "object.__class__")=some true)
   (hm:PySem.W.mroIn K C (.type "object")=some true):TyOf K H (.ref a) (.ref C)
theorem ZmL {x:V}{u t:Value} (I:Inv X pins σ H s) (rx:RelV x u) (ty:TyOf X.K H x t) (e:PySem.W.kitOne X.K t c=some b) (h:∀tk,Q (.bool b) {s with toks:=tk}) :
  wpAny (model X.prog X.w) A (call (.builtin "isinstance") [u,c]) Q E s:=by
 cases ty with
 |non=>cases(show u=Value.none from rx);exact PySem.W.kia_one PySem.W.kitx_none I.kIn True.intro e (λz=>nomatch z) h
 |bl y=>cases(show u=Value.bool y from rx);exact PySem.W.kia_one PySem.W.kitx_bool I.kIn True.intro e (λz=>nomatch z) h
 |int i=>obtain⟨t,q⟩:=(show ∃t,u=Value.int i t from rx);cases q;exact PySem.W.kia_one PySem.W.kitx_int I.kIn True.intro e (λz=>nomatch z) h
 |str y=>obtain⟨t,q⟩:=(show ∃t,u=Value.str y t from rx);cases q;exact PySem.W.kia_one PySem.W.kitx_str I.kIn True.intro e (λz=>nomatch z) h
 |flt y=>obtain⟨t,q⟩:=(show ∃t,u=Value.float y t from rx);cases q;exact PySem.W.kia_one PySem.W.kitx_float I.kIn True.intro e (λz=>nomatch z) h
 |@lst a xs ea =>
  cases(show u=Value.ref a from rx)
  obtain⟨_,_,n,_,h1⟩:=(show ZW X.prog X.w H s.heap a (.lst xs)from I.hok a _ ea)
  exact PySem.W.kia_one PySem.W.kitx_list I.kIn ⟨_,h1,rfl⟩ e (λz=>nomatch z) h
 |@frz a ob xs ea =>
  cases(show u=Value.ref a from rx)
  obtain⟨_,_,_,n,_,h1⟩:=(show ZW X.prog X.w H s.heap a (.frz ob (.lst xs))from I.hok a _ ea)
  exact PySem.W.kia_one PySem.W.kitx_list I.kIn ⟨_,h1,rfl⟩ e (λz=>nomatch z) h
 |@tup a xs ea =>
  cases(show u=Value.ref a from rx)
  obtain⟨_,_,_,p⟩:=(show ZW X.prog X.w H s.heap a (.tup xs)from I.hok a _ ea)
  obtain⟨o,h1,h2,_⟩:=p
  exact PySem.W.kia_one PySem.W.kitx_tuple I.kIn ⟨o,h1,h2⟩ e (λz=>nomatch z) h
 |@dK a kvs ea =>
  cases(show u=Value.ref a from rx)
  obtain⟨_,_,vs,_,p⟩:=(show ZW X.prog X.w H s.heap a (.dK kvs)from I.hok a _ ea)
  obtain⟨o,es,ep,h1,h2,_⟩:=p
  exact PySem.W.kia_one PySem.W.kitx_dict I.kIn ⟨o,h1,h2.1⟩ e (λz=>nomatch z) h
 |@dT a kvs ea =>
  cases(show u=Value.ref a from rx)
  obtain⟨_,_,xs,_,o,es,ep,h1,h2,_⟩:=(show ZW X.prog X.w H s.heap a (.dT kvs)from I.hok a _ ea)
  exact PySem.W.kia_one PySem.W.kitx_dict I.kIn ⟨o,h1,h2.1⟩ e (λz=>nomatch z) h
 |@ins a C dx fs ea cl ha hn htk hm =>
  cases(show u=Value.ref a from rx)
  obtain⟨mA,O,_⟩:=Zhb I.hok ea
  obtain⟨od,J,_⟩:=O.look
  exact PySem.W.kia_one (PySem.W.kitx_own (cl.get _) cl.hd ha hn htk hm) I.kIn J e (λz=>nomatch z) h
end
structure Room (k:Nat) (A:Around):Prop where
 hd:A.handled=none
 dp:A.depth+3*k+5<recursionLimit
 un:A.units+16*k+200<cLine
theorem Room.mono {j k:Nat}{A:Around} (r:Room k A) (h:j<=k):Room j A:=⟨r.hd,by have:=r.dp;omega,by have:=r.un;omega⟩
theorem Room.deeper {k:Nat}{A:Around} (r:Room (k+1) A) (env:Env):Room k (A.deeper env) :=
 ⟨r.hd,by have:=r.dp;show A.depth+1+3*k+5 < _;omega,by have:=r.un;show A.units+3+16*k+200 < _;omega⟩
theorem Room.in1 {k:Nat}{A:Around} (r:Room (k+1) A):Room k A.in1 :=
 ⟨r.hd,by have:=r.dp;show A.depth+3*k+5 < _;omega,by have:=r.un;show A.units+1+16*k+200 < _;omega⟩
theorem Zlj {A:Around}{C:Addr}{us:List Value}{kw:List (Str×Value)}:(A.under (.builtin "type.__call__" ⟨.ref C::us,kw⟩)).depth=A.depth+1:=by
 first|rfl|simp[Around.under,Code.weight,Code.isCreation,Code.isGuard,Code.isCaller,Code.frames,Code.isFrame,guardIds]
theorem Zlk {A:Around}{C:Addr}{us:List Value}{kw:List (Str×Value)}:(A.under (.builtin "type.__call__" ⟨.ref C::us,kw⟩)).units=A.units+1:=by
 first|rfl|simp[Around.under,Code.cUnits,Code.frames,Code.isFrame]
theorem Room.make {k:Nat}{A:Around} (r:Room (k+1) A) (C:Addr) (us:List Value) (kw:List (Str×Value)):Room k (A.under (.builtin "type.__call__" ⟨.ref C::us,kw⟩)) :=
 ⟨r.hd,by have:=r.dp;rw[Zlj];omega,by have:=r.un;rw[Zlk];omega⟩
theorem Room.depth {k:Nat}{A:Around} (r:Room k A):A.depth<recursionLimit:=by have:=r.dp;omega
theorem Room.units {k:Nat}{A:Around} (r:Room k A):A.units+64<cLine:=by have:=r.un;omega
noncomputable def tNil:TA:=λ_ H Q=>Q [] H
noncomputable def tCons (ta:TE) (tr:TA):TA:=fun σ H Q=>ta σ H λx H1=>tr σ H1 λxs H2=>Q (x::xs) H2
section
variable {X:Cx}{e:Expr}{es:List Expr}{te:TE}{t:TA}{pos:Pos}
theorem Zc:PA X [] tNil:=λ_ _ _ _ H Q I h=>Calls.spliced_nil ⟨[],H,I,.nil,h⟩
theorem Za (ha:PE X e te) (hr:PA X es t) (hs:starEach (e::es) X.env=(false,eval e X.env)::starEach es X.env:=by rfl):PA X (e::es) (tCons te t):=by
 intro pos pins s σ H Q I h
 rw[hs]
 show wpAny _ _ (spliced ((false,eval e X.env)::backTo pos (starEach es X.env))) _ _ s
 refine Calls.spliced_cons (thn (ha pins s σ H _ I h) λu s1 ⟨x,H1,I1,r1,q1⟩=>?_)
 exact thn (hr pos pins s1 σ H1 _ I1 q1) λus s2 ⟨xs,H2,I2,r2,q2⟩=>⟨x::xs,H2,I2,.cons r1 r2,q2⟩
noncomputable def tTup (t:TA):TE:=fun σ H Q=>t σ H λxs H1=>xs.length<=sizeLine/\∀p,H1 p=none->Q (.ref p) (upd H1 p (.tup xs))
noncomputable def tLst (t:TA):TE:=fun σ H Q=>t σ H λxs H1=>xs.length<=sizeLine/\∀p,H1 p=none->Q (.ref p) (upd H1 p (.lst xs))
theorem Zjj {x1} (h:PA X es t):PE X (.Tuple es x1 pos) (tTup t):=by
 intro pins s σ H Q I hq
 refine wpAny_Tuple_spliced (thn (h pos pins s σ H _ I hq) λus s1 ⟨xs,H1,I1,r,z,q⟩=>⟨by rw[<-r.length];exact z,?_⟩)
 have hf:H1 s1.heap.objs.size=none:=I1.hok.fresh (Yd _)
 refine⟨.ref s1.heap.objs.size,upd H1 s1.heap.objs.size (.tup xs),I1.laid (t':=s1.toks) (λb u e=>Yk _ e) (Yd _) ?_,rfl,q _ hf⟩
 exact⟨z,us,r,⟨_,Yp _ rfl,rfl,_,rfl⟩⟩
theorem ZX (h:PA X es t):PE X (.List es pos) (tLst t):=by
 intro pins s σ H Q I hq
 refine wpAny_List_spliced (thn (h pos pins s σ H _ I hq) λus s1 ⟨xs,H1,I1,r,z,q⟩=>⟨by rw[<-r.length];exact z,?_⟩)
 have hf:H1 s1.heap.objs.size=none:=I1.hok.fresh (Yd _)
 refine⟨.ref s1.heap.objs.size,upd H1 s1.heap.objs.size (.lst xs),I1.laid (t':=s1.toks) (λb u e=>Yk _ e) (Yd _) ?_,rfl,q _ hf⟩
 exact⟨z,us,0,r,Yp _ rfl⟩
end
noncomputable abbrev Sp:=List V->Hp->VK->XK->Prop
noncomputable abbrev CXT:=List Env->Hp->Shared->XK->Value->Shared->Prop
structure Env0 (P:Program) (w:World) (K:PySem.W.Frag) (mg:Str->Option Value) (base:Heap) (A:Around) (outer:List Env) (s:Shared) (H:Hp):Prop where
 frames:A.frames=some outer
 mod:Mod K mg base
 bs:∀b o,base.get? b=some o->s.heap.get? b=some o/\H b=none
 bsz:base.objs.size<=s.heap.objs.size
 funs:s.heap.FunFrames base outer
 frf:∀b∈frs outer,H b=none
 hok:HOk P w H s.heap
 bare:AllBare s.gens
noncomputable def CE (outer:List Env) (P:Program) (w:World) (H:Hp) (s:Shared) (Q:VK) (u:Value) (s':Shared):Prop :=
 ∃v H',s'.os=s.os/\AllBare s'.gens/\Un (frs outer) [] H H' s.heap s'.heap/\HOk P w H' s'.heap/\RelV v u/\Q v H'
noncomputable def CR (CX:CXT) (outer:List Env) (P:Program) (w:World) (H:Hp) (s:Shared) (Q:VK) (E:XK) (r:Result) (s':Shared):Prop :=
 match r with
 |.ok (.ret u)=>CE outer P w H s Q u s'
 |.ok _=>False
 |.error e=>CX outer H s E e s'
structure FnOk (P:Program) (w:World) (K:PySem.W.Frag) (mg:Str->Option Value) (base:Heap) (CX:CXT) (k:Nat) (f:Addr) (fd:FuncData) (ps:List Str) (sp:Sp):Prop where
 len:∀vs H Q E,sp vs H Q E->vs.length=ps.length
 run:∀(A:Around) (outer:List Env) (s:Shared) (H:Hp) (args:Args) (us:List Value) (vs:List V) (Q:VK) (E:XK),Room k A->Env0 P w K mg base A outer s H->BindsTo s fd args (ps.zip us)->Vals vs us->sp vs H Q E ->
  codeAny (model P w) A (.call (.ref f) args) (CR CX outer P w H s Q E) s
theorem Env0.make {P:Program}{w:World}{K:PySem.W.Frag}{mg:Str->Option Value}{base:Heap}{A:Around}{outer:List Env}{s:Shared}{H:Hp} (e:Env0 P w K mg base A outer s H) (C:Addr) (us:List Value) (kw:List (Str×Value)) :
  Env0 P w K mg base (A.under (.builtin "type.__call__" ⟨.ref C::us,kw⟩)) outer s H:=⟨by first|exact e.frames|(simpa[Around.under,Code.envs,Code.isFrame,pushEnvs]using e.frames),e.mod,e.bs,e.bsz,e.funs,e.frf,e.hok,e.bare⟩
section
variable {X:Cx}{pins:List (Addr×Obj)}{σ:St}{H:Hp}{s s':Shared}
theorem Inv.env0 (I:Inv X pins σ H s):Env0 X.prog X.w X.K X.mg X.base X.A X.stack s H :=
 ⟨I.ok.frames,I.ok.mod,I.bs,Yf I.ok.bsz I.sz,I.stack,I.Zg8,I.hok,I.bare⟩
theorem Inv.after {Q:VK}{u:Value} (I:Inv X pins σ H s) (h:CE X.stack X.prog X.w H s Q u s'):EP X pins σ Q u s':=by
 obtain⟨v,H',os,bare,un,hok,r,q⟩:=h
 obtain⟨hh,g,d,t,os'⟩:=s'
 obtain rfl:os'=s.os:=os
 exact⟨v,H',I.call (h':=hh) (g':=g) (d':=d) (t':=t) (ch:=[]) un hok bare (λb z=>absurd z (by simp)),r,q⟩
end
noncomputable def tCall (sp:Sp) (dvs:List V) (E:XK) (t:TA):TE:=fun σ H Q=>t σ H λvs H1=>sp (vs++dvs) H1 Q E
noncomputable def tMeth (C:Addr) (m:Str) (sp:Sp) (dvs:List V) (E:XK) (ta:TE) (t:TA):TE:=fun σ H Q=>ta σ H λx H1=>∃a dx fs,x=.ref a/\H1 a=some (.ins C dx fs)/\fs.lookup m=none /\
 t σ H1 λvs H2=>sp (x::(vs++dvs)) H2 Q E
noncomputable def tMake (C:Addr) (sp:Sp) (dvs:List V) (E:XK) (t:TA):TE:=fun σ H Q=>t σ H λvs H1=>∀x dx,H1 x=none->H1 dx=none->dx≠x ->
 sp (.ref x::(vs++dvs)) (upd (upd H1 dx (.own x)) x (.ins C dx [])) (λv H2=>v=.non/\Q (.ref x) H2) E
noncomputable def Binds (K:PySem.W.Frag) (fd:FuncData) (ps:List Str) (ds:List Value):Prop :=
 ∀(s:Shared) (us:List Value),K.In s.heap->(us++ds).length=ps.length->BindsTo s fd ⟨us,[]⟩ (ps.zip (us++ds))
theorem Binds.all {K:PySem.W.Frag}{fd:FuncData}{ps:List Str} (h:∀us:List Value,us.length=ps.length->bindArgs fd ⟨us,[]⟩=pure (ps.zip us)):Binds K fd ps []:=λs us _ hl=>by
 rw[List.append_nil]at hl⊢
 exact .of_eq (h us hl)
noncomputable def Passes (CX:CXT) (X:Cx) (E:XK):Prop:=∀(pins:List (Addr×Obj)) (σ:St) (H:Hp) (s:Shared) (e:Value) (s':Shared),Inv X pins σ H s->CX X.stack H s E e s'->X.xe e s'
section
variable {X:Cx}{CX:CXT}{k:Nat}{f C:Addr}{fd:FuncData}{ps:List Str}{sp:Sp}{dvs:List V}{ds:List Value}{E:XK}{x m:Str}{p pos apos:Pos}{e o:Expr}{es:List Expr}{ta:TE}{t:TA}
theorem Zll {pins:List (Addr×Obj)}{σ:St}{H:Hp}{s:Shared}{Q:VK}{us:List Value}{vs:List V} (F:FnOk X.prog X.w X.K X.mg X.base CX k f fd ps sp) (hr:Room k X.A) (hb:Binds X.K fd ps ds) (hd:Vals dvs ds) (hx:Passes CX X E)
  (I:Inv X pins σ H s) (r:Vals vs us) (h:sp (vs++dvs) H Q E):wpAny (model X.prog X.w) X.A (call (.ref f) us) (EP X pins σ Q) X.xe s:=by
 have r2:Vals (vs++dvs) (us++ds):=r.append hd
 have hl:(us++ds).length=ps.length:=by rw[<-r2.length];exact F.len _ _ _ _ h
 refine wpAny_call (codeAny_mono (F.run X.A X.stack s H ⟨us,[]⟩ (us++ds) (vs++dvs) Q E hr I.env0 (hb s us I.kIn hl) r2 h) λr s' hq=>?_)
 cases r with
 |error e=>exact hx pins σ H s e s' I hq
 |ok fl =>
  cases fl with
  |ret u=>exact I.after hq
  |next=>exact False.elim hq
  |brk=>exact False.elim hq
  |cont=>exact False.elim hq
theorem Zqj (F:FnOk X.prog X.w X.K X.mg X.base CX k f fd ps sp) (hr:Room k X.A) (hg:Gl X x) (hm:X.mg x=some (.ref f)) (hk:PySem.W.keepIn X.K (.ref f)=true) (hb:Binds X.K fd ps ds) (hd:Vals dvs ds) (hx:Passes CX X E)
  (ha:PA X (e::es) t) (hdb:(x==("__debug__":Str))=false:=by decide) (he:starEach (e::es) X.env=(false,eval e X.env)::starEach es X.env:=by rfl) (hpl:(backTo pos (starEach es X.env)).any (·.1)=false:=by rfl) :
  PE X (.Call (.Name x p) (e::es) [] pos) (tCall sp dvs E t):=by
 intro pins s σ H Q I h
 refine wpAny_Call_Name_kw (Zg9 I hg hm ?_ hdb)
 refine PySem.W.callWith_K (h₀:=X.base) I.ok.mod.kin hk (thn (ha pos pins s σ H _ I h) λus s1 ⟨vs,H1,I1,r,q⟩=>⟨I1.kIn,?_⟩) he hpl
 exact Zll F hr hb hd hx I1 r q
theorem Zqk {pl:Sem Bool} (he:PE X o ta) (c:Cls X.K C) (hm:Meth X.K C m f) (F:FnOk X.prog X.w X.K X.mg X.base CX k f fd ps sp) (hr:Room k X.A) (hb:Binds X.K fd ps ds) (hd:Vals dvs ds) (hx:Passes CX X E) (ha:PA X (e::es) t)
  (hst:starEach (e::es) X.env=(false,eval e X.env)::starEach es X.env:=by rfl) (hpl:(backTo pos (starEach es X.env)).any (·.1)=false:=by rfl)
  (ht:eval (.Call (.Attribute o m apos) (e::es) [] pos) X.env=(do
   let ov <-eval o X.env
   standAt apos.atName
   let (f,first) <-holding [ov] (getMethod ov m pl)
   callWith pos f first (backTo pos (starEach (e::es) X.env)) (backToKw pos (keywordEach [] X.env))):=by rfl) :
  PE X (.Call (.Attribute o m apos) (e::es) [] pos) (tMeth C m sp dvs E ta t):=by
 intro pins s σ H Q I h
 refine PySem.W.methodCall_KW (pl:=pl) (thn (he pins s σ H _ I h) λu s1 ⟨x,H1,I1,rx,a,dx,fs,ex,ea,l,q⟩=>?_) ht
 subst ex
 obtain rfl:u=Value.ref a:=rx
 refine Zho I1 ea c hm l ?_
 refine PySem.W.callWith_K (first:=[.ref a]) (h₀:=X.base) I.ok.mod.kin hm.kp (thn (ha pos pins s1 σ H1 _ I1 q) λus s2 ⟨vs,H2,I2,r,q2⟩=>⟨I2.kIn,?_⟩) hst hpl
 exact Zll (us:=.ref a::us) (vs:=.ref a::vs) F hr hb hd hx I2 (.cons rfl r) q2
theorem Zn2 {pl:Sem Bool} (he:PE X o ta) (c:Cls X.K C) (hm:Meth X.K C m f) (F:FnOk X.prog X.w X.K X.mg X.base CX k f fd ps sp) (hr:Room k X.A) (hb:Binds X.K fd ps ds) (hd:Vals dvs ds) (hx:Passes CX X E)
  (ht:eval (.Call (.Attribute o m apos) [] [] pos) X.env=(do
   let ov <-eval o X.env
   standAt apos.atName
   let (f,first) <-holding [ov] (getMethod ov m pl)
   callWith pos f first (backTo pos (starEach [] X.env)) (backToKw pos (keywordEach [] X.env))):=by rfl) :
  PE X (.Call (.Attribute o m apos) [] [] pos) (tMeth C m sp dvs E ta tNil):=by
 intro pins s σ H Q I h
 refine PySem.W.methodCall_KW (pl:=pl) (thn (he pins s σ H _ I h) λu s1 ⟨x,H1,I1,rx,a,dx,fs,ex,ea,l,q⟩=>?_) ht
 subst ex
 obtain rfl:u=Value.ref a:=rx
 refine Zho I1 ea c hm l ?_
 exact PySem.W.callWith_K0 (first:=[.ref a]) I1.kIn hm.kp (Zll (us:=[.ref a]) (vs:=[.ref a]) F hr hb hd hx I1 (.cons rfl .nil) q)
structure Mk (K:PySem.W.Frag) (C f:Addr):Prop where
 makes:PySem.W.makesIn K C=true
 init:PySem.W.findIn K (.ref C) "__init__"=some (some (.ref f))
 fn:PySem.W.isFn K (.ref f)=true
 kp:PySem.W.keepIn K (.ref C)=true
theorem Zn3 {pins:List (Addr×Obj)}{σ:St}{H:Hp}{s:Shared}{Q:VK}{us:List Value}{vs:List V} (M:Mk X.K C f) (F:FnOk X.prog X.w X.K X.mg X.base CX k f fd ps sp) (hr:Room (k+1) X.A) (hb:Binds X.K fd ps ds) (hd:Vals dvs ds)
  (hx:Passes CX X E) (I:Inv X pins σ H s) (r:Vals vs us)
  (h:∀x dx,H x=none->H dx=none->dx≠x->sp (.ref x::(vs++dvs)) (upd (upd H dx (.own x)) x (.ins C dx [])) (λv H2=>v=.non/\Q (.ref x) H2) E) :
  wpAny (model X.prog X.w) X.A (call (.ref C) us) (EP X pins σ Q) X.xe s:=by
 have hq:=h (s.heap.objs.size+1) s.heap.objs.size (I.hok.fresh (YW _)) (I.hok.fresh (Yd _)) (Yl (Nat.lt_succ_self _))
 have I2:=Inv.made (C:=C) I
 have r2:Vals (V.ref (s.heap.objs.size+1)::(vs++dvs)) (Value.ref (s.heap.objs.size+1)::(us++ds)):=.cons rfl (r.append hd)
 have hl:(Value.ref (s.heap.objs.size+1)::us++ds).length=ps.length:=by
  have e:=r2.length
  rw[F.len _ _ _ _ hq]at e
  exact e.symm
 refine wpAny_call (Zn1 (f:=f) I.kIn M.makes M.init (beq_iff_eq.mp M.fn) (codeAny_mono (F.run _ X.stack _ _ ⟨Value.ref (s.heap.objs.size+1)::us,[]⟩ (Value.ref (s.heap.objs.size+1)::(us++ds)) _ _ E (hr.make C us [])
  (I2.env0.make C us []) (hb _ (Value.ref (s.heap.objs.size+1)::us) I2.kIn hl) r2 hq) λr s' hq'=>?_))
 cases r with
 |error e=>exact hx pins σ _ _ e s' I2 hq'
 |ok fl =>
  cases fl with
  |ret u =>
   obtain⟨v,H',I3,rv,ev,q3⟩:=I2.after hq'
   subst ev
   exact⟨rv,⟨V.ref (s.heap.objs.size+1),H',I3,rfl,q3⟩⟩
  |next=>exact False.elim hq'
  |brk=>exact False.elim hq'
  |cont=>exact False.elim hq'
theorem Zql (M:Mk X.K C f) (F:FnOk X.prog X.w X.K X.mg X.base CX k f fd ps sp) (hr:Room (k+1) X.A) (hg:Gl X x) (hm:X.mg x=some (.ref C)) (hb:Binds X.K fd ps ds) (hd:Vals dvs ds) (hx:Passes CX X E)
  (ha:PA X (e::es) t) (hdb:(x==("__debug__":Str))=false:=by decide) (he:starEach (e::es) X.env=(false,eval e X.env)::starEach es X.env:=by rfl) (hpl:(backTo pos (starEach es X.env)).any (·.1)=false:=by rfl) :
  PE X (.Call (.Name x p) (e::es) [] pos) (tMake C sp dvs E t):=by
 intro pins s σ H Q I h
 refine wpAny_Call_Name_kw (Zg9 I hg hm ?_ hdb)
 refine PySem.W.callWith_K (h₀:=X.base) I.ok.mod.kin M.kp (thn (ha pos pins s σ H _ I h) λus s1 ⟨vs,H1,I1,r,q⟩=>⟨I1.kIn,?_⟩) he hpl
 exact Zn3 M F hr hb hd hx I1 r q
end
noncomputable def PK (X:Cx) (kws:List Keyword) (t:TA):Prop :=
 ∀(pos:Pos) (pins:List (Addr×Obj)) (s:Shared) (σ:St) (H:Hp) (Q:List V->Hp->Prop),Inv X pins σ H s->t σ H Q->wpAny (model X.prog X.w) X.A (evalAll ((backToKw pos (keywordEach kws X.env)).map (·.2))) (AP X pins σ Q) X.xe s
section
variable {X:Cx}{CX:CXT}{k:Nat}{f C:Addr}{fd:FuncData}{ps ks:List Str}{sp:Sp}{E:XK}{x m:Str}{p pos apos kpos:Pos}{e o:Expr}{es:List Expr}{kws:List Keyword}{te ta:TE}{t tk:TA}{nm:Option Str}
theorem Zhp:PK X [] tNil:=λ_ _ _ _ H Q I h=>wpAny_evalAll_nil ⟨[],H,I,.nil,h⟩
theorem Zeq (ha:PE X e te) (hr:PK X kws t):PK X (⟨nm,e,kpos⟩::kws) (tCons te t):=by
 intro pos pins s σ H Q I h
 show wpAny _ _ (evalAll ((do let v <-eval e X.env;standAt pos;pure v)::(backToKw pos (keywordEach kws X.env)).map (·.2))) _ _ s
 refine wpAny_evalAll_cons (Ya (thn (ha pins s σ H _ I h) λu s1 ⟨x,H1,I1,r1,q1⟩=>Ya (wpAny_standAt (Ye ?_))))
 exact thn (hr pos pins s1 σ H1 _ I1 q1) λus s2 ⟨xs,H2,I2,r2,q2⟩=>⟨x::xs,H2,I2,.cons r1 r2,q2⟩
variable {g:List Value->List Value->List Value}{gV:List V->List V->List V}
end
structure FnScope (N P:List Str) (sc:Scope):Prop where
 kind:sc.kind=.function
 co:sc.isCoroutine=false
 gen:sc.isGenerator=false
 nd:N.Nodup
 pre:N.take P.length=P
 par:∀x∈P,sc.names.lookup x=some .local\/sc.names.lookup x=some .cell
 nofree:∀y∈sc.names,y.2≠.free
theorem ZiE {kindOf:Str->Option NameKind}{x:Str}:∀{binds:List (Str×Value)}{m:Str->Option Value},(∀v,(x,v)∉binds)->bindL kindOf binds m x=m x
 |[],_,_=>rfl
 |(n,v)::r,m,h=>by
  unfold bindL
  rw[ZiE λw hw=>h w (YK _ hw)]
  split
  ·have:x≠n:=by rintro rfl;exact h v YQ
   simp[this]
  ·rfl
theorem ZiF {kindOf:Str->Option NameKind}{x:Str}:∀{binds:List (Str×Value)}{m:Str->Option Value},(∀v,(x,v)∉binds)->bindC kindOf binds m x=m x
 |[],_,_=>rfl
 |(n,v)::r,m,h=>by
  unfold bindC
  rw[ZiF λw hw=>h w (YK _ hw)]
  split
  ·rfl
  ·have:x≠n:=by rintro rfl;exact h v YQ
   simp[this]
theorem ZiG {kindOf:Str->Option NameKind}{x:Str}{v:Value}:∀{P:List Str}{vs:List Value}{i:Nat}{m:Str->Option Value},P.Nodup->P[i]?=some x->vs[i]?=some v->kindOf x=some .local ->
  bindL kindOf (P.zip vs) m x=some v
 |[],_,_,_,_,h,_,_=>by simp at h
 |_::_,[],_,_,_,_,h,_=>by simp at h
 |p::P,w::vs,0,m,nd,h1,h2,hk=>by
  simp at h1 h2;subst h1;subst h2
  show bindL kindOf ((p,w)::P.zip vs) m p=_
  unfold bindL
  rw[ZiE λv hv=>(List.nodup_cons.mp nd).1 (List.of_mem_zip hv).1,Yc hk]
  simp
 |p::P,w::vs,i+1,m,nd,h1,h2,hk=>by
  show bindL kindOf ((p,w)::P.zip vs) m x=_
  unfold bindL
  exact ZiG (i:=i) (List.nodup_cons.mp nd).2 (by simpa using h1) (by simpa using h2) hk
theorem ZiH {kindOf:Str->Option NameKind}{x:Str}{v:Value}:∀{P:List Str}{vs:List Value}{i:Nat}{m:Str->Option Value},P.Nodup->P[i]?=some x->vs[i]?=some v->kindOf x≠some .local ->
  bindC kindOf (P.zip vs) m x=some v
 |[],_,_,_,_,h,_,_=>by simp at h
 |_::_,[],_,_,_,_,h,_=>by simp at h
 |p::P,w::vs,0,m,nd,h1,h2,hk=>by
  simp at h1 h2;subst h1;subst h2
  show bindC kindOf ((p,w)::P.zip vs) m p=_
  unfold bindC
  rw[ZiF λv hv=>(List.nodup_cons.mp nd).1 (List.of_mem_zip hv).1,Yb hk]
  simp
 |p::P,w::vs,i+1,m,nd,h1,h2,hk=>by
  show bindC kindOf ((p,w)::P.zip vs) m x=_
  unfold bindC
  exact ZiH (i:=i) (List.nodup_cons.mp nd).2 (by simpa using h1) (by simpa using h2) hk
noncomputable def start (N:List Str) (vs:List V):St:=vs.map some++List.replicate (N.length-vs.length) none
noncomputable def Zfo (CX:CXT) (P:Program) (w:World) (K:PySem.W.Frag) (mg:Str->Option Value) (base:Heap) (N:List Str) (qual:Str) (scope:Scope) (f:Addr) (cd:Value) (A:Around) (outer:List Env) (s:Shared) (H:Hp) (E:XK):Cx where
 prog:=P
 w:=w
 K:=K
 mg:=mg
 base:=base
 A:=A.deeper (envOfC qual scope s.heap.objs.size f cd)
 N:=N
 s₀:=s
 H₀:=H
 env:=envOfC qual scope s.heap.objs.size f cd
 outer:=outer
 stack:=envOfC qual scope s.heap.objs.size f cd::outer
 ex:=[]
 calm:=true
 fn:=λ_=>true
 pn:=[]
 xe:=λe s'=>wpAny (model P w) (A.deeper (envOfC qual scope s.heap.objs.size f cd)) (leaving (envOfC qual scope s.heap.objs.size f cd) e) (λ_ s''=>CX outer H s E e s'') (λe' s''=>CX outer H s E e' s'') s'
theorem Zkf {sc:Scope}{n:Nat}{x:Str} (h:sc.names.lookup x=some .cell):∃c,(cellsFrom n sc.names []).lookup x=some c:=by
 have q:=PySem.W.cellsFrom_some sc.names n [] (.inl h)
 exact Option.isSome_iff_exists.mp q
theorem ZmM {CX:CXT}{P:Program}{w:World}{K:PySem.W.Frag}{mg:Str->Option Value}{base:Heap}{N ps:List Str}{qual:Str}{scope:Scope}{f:Addr}{cd:Value}{A:Around}{outer:List Env}{s s1:Shared}{H:Hp}{E:XK}{us:List Value}{vs:List V}
  (S:FnScope N ps scope) (hd:A.handled=none) (e0:Env0 P w K mg base A outer s H) (hl:vs.length=ps.length) (r:Vals vs us)
  (x:InCallC s s.heap.objs.size (bindL (envOfC qual scope s.heap.objs.size f cd).kindOf (ps.zip us) λ_=>none) (cellsFrom (s.heap.objs.size+1) scope.names []) (bindC (envOfC qual scope s.heap.objs.size f cd).kindOf (ps.zip us) λ_=>none) s1) :
  Inv (Zfo CX P w K mg base N qual scope f cd A outer s H E) [] (start N vs) H s1:=by
 have hpl:ps.length<=N.length:=by have:=congrArg List.length S.pre;rw[YX]at this;omega
 obtain⟨h1,tk,rfl,hk⟩:=x.done
 have noA:∀b:Addr,b∉(Zfo CX P w K mg base N qual scope f cd A outer s H E).ex:=λb z=>absurd (show b∈([]:List Addr)from z) (by simp)
 refine⟨⟨e0.mod,S.kind,rfl,rfl,Yd _,λy z c h1 h2=>?_,λy hy=>?_,λy c _ h=>?_,λ_=>hd,Around.frames_deeper e0.frames,.inr ⟨rfl,rfl⟩,λb z=>absurd z (noA b),e0.bs,e0.bsz,λb _ _=>noA b,λb z=>absurd z (noA b),e0.funs,e0.frf⟩,
  rfl,e0.bare,Un.kept hk,⟨_,x.toInCall.ns,λi y v h1 h2 h3=>?_⟩,λy c h=>⟨_,x.cell y c h⟩,e0.hok.fresh (Yd _),λy c h=>?_,λp hp=>absurd (show p∈([]:List (Addr×Obj))from hp) (by simp),e0.hok.kept hk,?_⟩
 ·exact name_of_addr x.apart (PySem.mem_of_lookup h1) (PySem.mem_of_lookup h2)
 ·have hy:scope.names.lookup y=some .cell\/scope.names.lookup y=some .free:=hy
  rcases hy with hy|hy
  ·exact Zkf hy
  ·exact absurd rfl (S.nofree _ (PySem.mem_of_lookup hy))
 ·exact YH (x.above y c (PySem.mem_of_lookup h))
 ·have hi:i<vs.length:=by
   unfold start at h2
   by_cases hi:i<vs.length
   ·exact hi
   ·rw[YY (by simpa using hi)]at h2
    rw[List.getElem?_replicate]at h2
    split at h2<;>cases h2
  have ha:vs[i]?=some v:=by
   unfold start at h2
   rw[YS (by simpa using hi),YE]at h2
   cases e:vs[i]? with
   |none=>rw[e]at h2;cases h2
   |some a=>rw[e]at h2;cases h2;rfl
  obtain⟨u,hu,rv⟩:=r.get ha
  have hp:ps[i]?=some y:=by
   rw[<-S.pre,List.getElem?_take_of_lt (by omega)];exact h1
  have ndP:ps.Nodup:=by rw[<-S.pre];exact S.nd.sublist (List.take_sublist _ _)
  refine⟨u,rv,?_⟩
  rcases S.par y (List.mem_of_getElem? hp)with k|k
  ·exact .inl ⟨k,ZiG ndP hp hu k⟩
  ·obtain⟨c,e⟩:=Zkf (n:=s.heap.objs.size+1) k
   refine .inr ⟨.inl k,c,e,?_⟩
   have q:=x.cell y c e
   rw[ZiH ndP hp hu (by show scope.names.lookup y≠_;rw[k];decide)]at q
   exact q
 ·exact e0.hok.fresh (YH (x.above y c (PySem.mem_of_lookup h)))
 ·unfold start
  show _=N.length
  rw[YD,Yi,List.length_replicate]
  omega
theorem fn_of {CX:CXT}{P:Program}{w:World}{K:PySem.W.Frag}{mg:Str->Option Value}{base:Heap}{k:Nat}{f:Addr}{name qual:Str}{params:Arguments}{body:List Stmt}{scope:Scope}{dV kV doc pm cdv ct oc:Value}{an od:Option Addr}
  {osl:Array (Option Value)}{N ps:List Str}{sp:Sp} (lk:K.lookup f=some ⟨oc,od,.func (PySem.W.fnOf name qual params body scope dV kV doc pm an cdv ct),osl⟩) (hcd:PySem.W.codeIn K cdv qual=true) (S:FnScope N ps scope)
  (len:∀vs H Q E,sp vs H Q E->vs.length=ps.length)
  (hbody:∀(A:Around) (outer:List Env) (s:Shared) (H:Hp) (vs:List V) (Q:VK) (E:XK),Room k (A.deeper (envOfC qual scope s.heap.objs.size f cdv))->sp vs H Q E ->
   ∃t,PSs (Zfo CX P w K mg base N qual scope f cdv A outer s H E) body t/\t {nx:=λ_ H'=>Q .non H',rt:=Q} (start N vs) H) :
  FnOk P w K mg base CX (k+1) f (PySem.W.fnOf name qual params body scope dV kV doc pm an cdv ct) ps sp:=by
 refine⟨len,λA outer s H args us vs Q E hr e0 hb r hsp=>?_⟩
 have hl:=len _ _ _ _ hsp
 have KX:K.In s.heap:=e0.mod.kin.keeps λb o e=>(e0.bs b o e).1
 have lim:s.heap.NoLimit:=e0.mod.nolimit.keeps λb o e=>(e0.bs b o e).1
 have hkind:∀y∈ps.zip us,scope.names.lookup y.1=some .local\/(scope.names.lookup y.1=some .cell/\((cellsFrom (s.heap.objs.size+1) scope.names []).lookup y.1).isSome=true):=λ⟨n,v⟩ hy=>by
  rcases S.par n (List.of_mem_zip hy).1 with q|q
  ·exact .inl q
  ·exact .inr ⟨q,PySem.W.cellsFrom_some _ _ _ (.inl q)⟩
 refine codeAny_call_function hr.depth (KX _ _ lk) rfl S.co S.gen rfl (PySem.W.codeRec_of KX hcd) (hb _ _ _ _ ?_)
 refine wpAny_newFunctionEnv_cells S.kind hkind λenv he s1 x=>?_
 subst he
 refine⟨lim.keeps x.toInCall.keep,codeAny_func ?_⟩
 obtain⟨t,ht,hq⟩:=hbody A outer s H vs Q E (hr.deeper _) hsp
 have I:Inv (Zfo CX P w K mg base N qual scope f cdv A outer s H E) [] (start N vs) H s1:=ZmM S hr.hd e0 hl r x
 refine YI (ht [] s1 (start N vs) H _ I hq) (λfl s' hs=>?_) λe s' hs=>hs
 have fin:∀{σ':St}{H':Hp}{v:V}{u:Value},Inv (Zfo CX P w K mg base N qual scope f cdv A outer s H E) [] σ' H' s'->RelV v u->Q v H'->CE outer P w H s Q u s' :=
  λ{σ' H' v u} J rv q=>⟨v,H',J.os,J.bare,J.base,J.hok,rv,q⟩
 cases fl with
 |ret u =>
  obtain⟨v,σ',H',J,rv,q⟩:=hs
  exact fin J rv q
 |next =>
  obtain⟨σ',H',J,q⟩:=hs
  exact fin (v:=V.non) (u:=Value.none) J rfl q
 |brk =>
  obtain⟨_,_,_,q⟩:=hs
  exact False.elim q
 |cont =>
  obtain⟨_,_,_,q⟩:=hs
  exact False.elim q
section
variable {X:Cx}{x:Str}{p pos:Pos}{e:Expr}{es:List Expr}{t:TA}{id T:String}{r:List V->Hp->VK->Prop}
noncomputable def tCB (r:List V->Hp->VK->Prop) (t:TA):TE:=fun σ H Q=>t σ H λvs H1=>r vs H1 Q
theorem Zk (hc:Zbl X (.builtin id) r) (hg:Gl X x) (hm:X.mg x=none) (hv:bootBuiltins x=some (.builtin id)) (ha:PA X (e::es) t) (hn:x≠"__name__":=by decide) (hdb:(x==("__debug__":Str))=false:=by decide)
  (he:starEach (e::es) X.env=(false,eval e X.env)::starEach es X.env:=by rfl) (hpl:(backTo pos (starEach es X.env)).any (·.1)=false:=by rfl):PE X (.Call (.Name x p) (e::es) [] pos) (tCB r t):=by
 intro pins s σ H Q I h
 refine wpAny_Call_Name_kw (Zbc I hg hm hv ?_ hn hdb)
 exact PyProof.Rows.callWith_builtin1 (thn (ha pos pins s σ H _ I h) λus s1 ⟨vs,H1,I1,r1,q1⟩=>hc pins s1 σ H1 vs us Q I1 r1 q1) he hpl
theorem Zat (hc:Zbl X (.type T) r) (hg:Gl X x) (hm:X.mg x=none) (hv:bootBuiltins x=some (.type T)) (ha:PA X (e::es) t) (hn:x≠"__name__":=by decide) (hdb:(x==("__debug__":Str))=false:=by decide)
  (he:starEach (e::es) X.env=(false,eval e X.env)::starEach es X.env:=by rfl) (hpl:(backTo pos (starEach es X.env)).any (·.1)=false:=by rfl):PE X (.Call (.Name x p) (e::es) [] pos) (tCB r t):=by
 intro pins s σ H Q I h
 refine wpAny_Call_Name_kw (Zbc I hg hm hv ?_ hn hdb)
 exact PyProof.Rows.callWith_type1 (thn (ha pos pins s σ H _ I h) λus s1 ⟨vs,H1,I1,r1,q1⟩=>hc pins s1 σ H1 vs us Q I1 r1 q1) he hpl
end
end L2
namespace HT
open PySem PyProof.Rows
noncomputable def lexLt:List Int->List Int->Bool
 |[],[]=>false
 |[],_::_=>true
 |_::_,[]=>false
 |x::xs,y::ys=>if x=y then lexLt xs ys else decide (x<y)
theorem Zlm (x y:Int) (xs ys:List Int):lexLt (x::xs) (y::ys)=if x=y then lexLt xs ys else decide (x<y):=rfl
section
open PySem.SeqAt
open PySem.AutoSeq1 (wpAny_loadPart')
open PySem.MeetsSeq PySem.MeetsSeq2 PySem.MeetsSeq3
end
section
variable {prog:Program}{w:World}{A:Around}{E:Value->Shared->Prop}{s:Shared}
noncomputable def sIx (n d:Nat):Option Int->Nat
 |none=>d
 |some v=>if v<0 then (v+(n:Int)).toNat else min v.toNat n
theorem Zmc (n d k:Nat):sIx n d (some (k:Int))=min k n:=by
 show(if (k:Int)<0 then ((k:Int)+(n:Int)).toNat else min (k:Int).toNat n)=min k n
 rw[Yb (by omega),YZ]
end
end HT
namespace L2
open PySem PySem.Spec PyProof.Rows
noncomputable abbrev TO:=St->Hp->(Option Int->Hp->Prop)->Prop
noncomputable def PO (X:Cx) (e:Option Expr) (t:TO):Prop :=
 ∀(pins:List (Addr×Obj)) (s:Shared) (σ:St) (H:Hp) (Q:Option Int->Hp->Prop),Inv X pins σ H s->t σ H Q ->
  wpAny (model X.prog X.w) X.A (evalPart e X.env) (λu s'=>∃o H',Inv X pins σ H' s'/\IsPart u o/\Q o H') X.xe s
noncomputable def tNoPart:TO:=λ_ H Q=>Q none H
noncomputable def tPart (t:TE):TO:=fun σ H Q=>t σ H λx H1=>∃i,x=.int i/\Q (some i) H1
theorem intsAre_of {ns:List Int}:∀{us:List Value},Vals (ns.map V.int) us->IntsAre us ns:=by
 induction ns with
 |nil=>intro us r;rw[List.map_nil]at r;cases r;exact .nil
 |cons n ns ih =>
  intro us r
  rw[YA]at r
  cases r with
  |cons r1 r2 =>
   obtain⟨t,e⟩:=r1
   subst e
   exact .cons n t (ih r2)
section
variable {X:Cx}{e:Expr}{te:TE}{lo hi:Option Expr}{tl th:TO}{pos p2:Pos}
theorem Zer:PO X none tNoPart:=by
 intro pins s σ H Q I h
 rw[evalPart_none]
 exact Ye ⟨none,H,I,.none,h⟩
theorem ZbZ (h:PE X e te):PO X (some e) (tPart te):=by
 intro pins s σ H Q I hw
 rw[evalPart_some]
 refine thn (h pins s σ H _ I hw) λu s1 ⟨x,H1,I1,r1,q1⟩=>?_
 obtain⟨i,rfl,q⟩:=q1
 obtain⟨t,rfl⟩:=r1
 exact⟨some i,H1,I1,.int i t,q⟩
noncomputable def SlR (X:Cx) (r:V->Option Int->Option Int->Hp->VK->Prop):Prop :=
 ∀(pins:List (Addr×Obj)) (s:Shared) (σ:St) (H:Hp) (x:V) (v vl vu:Value) (lo hi:Option Int) (sl:Addr) (Q:VK),Inv X pins σ H s->RelV x v->s.heap.IsSliceOf sl vl vu .none->IsPart vl lo->IsPart vu hi->r x lo hi H Q ->
  ∃T id,typeLookup (.type T) "__getitem__"=pure (some (.builtin id))/\s.TypeIs v T/\wpAny (model X.prog X.w) X.A (getItem v (.ref sl)) (EP X pins σ Q) X.xe s
noncomputable def tSl (r:V->Option Int->Option Int->Hp->VK->Prop) (te:TE) (tl th:TO):TE:=fun σ H Q=>te σ H λx H1=>tl σ H1 λl H2=>th σ H2 λu H3=>r x l u H3 Q
theorem ZbP {r:V->Option Int->Option Int->Hp->VK->Prop} (hr:SlR X r) (he:PE X e te) (hl:PO X lo tl) (hu:PO X hi th):PE X (.Subscript e (.Slice lo hi none p2) pos) (tSl r te tl th):=by
 intro pins s σ H Q I h
 refine Subscript_ (thn (he pins s σ H _ I h) λv s1 ⟨x,H1,I1,r1,q1⟩=>?_)
 refine wpAny_Slice (thn (hl pins s1 σ H1 _ I1 q1) λvl s2 ⟨l,H2,I2,pl,q2⟩=>thn (hu pins s2 σ H2 _ I2 q2) λvu s3 ⟨u,H3,I3,pu,q3⟩=>?_)
 rw[evalPart_none]
 refine Ye ?_
 have I4:Inv X pins σ H3 {s3 with heap:=s3.heap.push {cls:=.type "slice",data:=.fields #[vl,vu,.none]}}:=I3.kept (t':=s3.toks) λb ob q=>Yk _ q
 obtain⟨T,id,hT,ht,hg⟩:=hr pins {s3 with heap:=s3.heap.push {cls:=.type "slice",data:=.fields #[vl,vu,.none]}} σ H3 x v vl vu l u s3.heap.objs.size Q I4 r1 (Heap.IsSliceOf.new ..) pl pu q3
 show wpAny (model X.prog X.w) X.A (subscriptTail e (.Slice lo hi none p2) v (.ref s3.heap.objs.size)) (EP X pins σ Q) X.xe {s3 with heap:=s3.heap.push {cls:=.type "slice",data:=.fields #[vl,vu,.none]}}
 exact tail_any (ops:=[.ref s3.heap.objs.size,v]) ht hT hg (by with_unfolding_all rfl)
noncomputable def ZbW (xs:List V) (lo hi:Option Int):List V:=(xs.drop (HT.sIx xs.length 0 lo)).take (HT.sIx xs.length xs.length hi-HT.sIx xs.length 0 lo)
theorem Zgt (xs:List V) (lo hi:Option Int):(ZbW xs lo hi).length<=xs.length:=by
 unfold ZbW
 rw[YX,Ja]
 omega
end
noncomputable def ixN (n:Nat) (i:Int):Option Nat:=if 0<=i then (if i<n then some i.toNat else none)else if -(n:Int)<=i then some (i+n).toNat else none
noncomputable def atI {α:Type} (xs:List α) (i:Int):Option α:=(ixN xs.length i).bind λj=>xs[j]?
theorem Zmd {n:Nat}{i:Int}{j:Nat} (h:ixN n i=some j):seqIndex? i n=some j/\j<n/\-(n:Int)<=i/\i<n:=by
 unfold ixN at h
 by_cases h0:0<=i
 ·rw[Yc h0]at h
  by_cases h1:i<n
  ·rw[Yc h1]at h
   have e:i.toNat=j:=Yy h
   exact⟨by rw[seqIndex_of h0 h1,e],by omega,by omega,h1⟩
  ·rw[Yb h1]at h;cases h
 ·rw[Yb h0]at h
  by_cases h1:-(n:Int)<=i
  ·rw[Yc h1]at h
   have e:(i+n).toNat=j:=Yy h
   exact⟨by rw[seqIndex_neg (by omega) h1,e],by omega,h1,by omega⟩
  ·rw[Yb h1]at h;cases h
theorem Zme {α:Type}{xs:List α}{i:Int}{v:α} (h:atI xs i=some v):∃j,seqIndex? i xs.length=some j/\xs[j]?=some v/\j<xs.length/\-(xs.length:Int)<=i/\i<xs.length:=by
 unfold atI at h
 cases e:ixN xs.length i with
 |none=>rw[e]at h;cases h
 |some j =>
  rw[e]at h
  obtain⟨h1,h2,h3,h4⟩:=Zmd e
  exact⟨j,h1,h,h2,h3,h4⟩
theorem Zb0 {α:Type}{xs:List α}{j:Nat}{v:α} (h:xs[j]?=some v):atI xs (j:Int)=some v:=by
 have hj:j<xs.length:=(Yr.mp h).1
 have e:ixN xs.length (j:Int)=some j:=by
  unfold ixN
  rw[Yc (by omega),Yc (by omega)];simp
 unfold atI;rw[e];exact h
noncomputable def Zqm (b:Expr):Prop:=∀o i,subscripted b false o i=operate [o,i] (getItem o i)
noncomputable def IxR (X:Cx) (r:R2):Prop :=
 ∀(value slice:Expr) (pins:List (Addr×Obj)) (s:Shared) (σ:St) (H:Hp) (x y:V) (v u:Value) (Q:VK),Inv X pins σ H s->RelV x v->RelV y u->r x y H Q ->
  subscripted slice false v u=operate [v,u] (getItem v u)->wpAny (model X.prog X.w) X.A (subscriptTail value slice v u) (EP X pins σ Q) X.xe s
noncomputable def MtR (X:Cx) (id:String) (r:V->List V->Hp->VK->Prop):Prop :=
 ∀(pins:List (Addr×Obj)) (s:Shared) (σ:St) (H:Hp) (x:V) (xs:List V) (v:Value) (us:List Value) (Q:VK),Inv X pins σ H s->RelV x v->Vals xs us->r x xs H Q ->
  wpAny (model X.prog X.w) X.A (call (.builtin id) (v::us)) (EP X pins σ Q) X.xe s
section
variable {X:Cx}{a b:Expr}{ta tb:TE}{pos:Pos}
theorem IxR.or {r r':R2} (h:IxR X r) (h':IxR X r'):IxR X (λx y H Q=>r x y H Q\/r' x y H Q):=by
 intro value slice pins s σ H x y v u Q I rx ry q hs
 rcases q with q|q
 ·exact h value slice pins s σ H x y v u Q I rx ry q hs
 ·exact h' value slice pins s σ H x y v u Q I rx ry q hs
theorem ZM {r:R2} (hr:IxR X r) (ha:PE X a ta) (hb:PE X b tb) (hs:Zqm b):PE X (.Subscript a b pos) (tOp r ta tb):=by
 intro pins s σ H Q I h
 exact Subscript_ (binT ha hb I h λv u s2 x y H2 I2 rx ry q=>hr a b pins s2 σ H2 x y v u Q I2 rx ry q (hs _ _))
noncomputable def rIxL (K:PySem.W.Frag):R2:=λx y H Q=>∃p xs i v,x=.ref p/\y=.int i/\SqL K H p xs/\atI xs i=some v/\Q v H
noncomputable def rIxT (K:PySem.W.Frag):R2:=λx y H Q=>∃p xs i v,x=.ref p/\y=.int i/\SqT K H p xs/\atI xs i=some v/\Q v H
theorem Zu:IxR X (rIxL X.K):=by
 intro value slice pins s σ H x y v u Q I rx ry h hs
 obtain⟨p,xs,i,z,rfl,rfl,hq,he,q⟩:=h
 cases rx
 obtain⟨t,rfl⟩:=ry
 obtain⟨its,r,pl,hz⟩:=I.list hq
 obtain⟨j,h1,h2,h3,h4,h5⟩:=Zme he
 obtain⟨w,ew,rw'⟩:=r.get h2
 have hl:=r.length
 have hn:=Zhn
 have fin:EP X pins σ Q w s:=⟨z,H,I,rw',q⟩
 by_cases h0:0<=i
 ·have hj:i.toNat=j:=by
   rw[seqIndex_of h0 h5]at h1
   exact Yy h1
  exact item_listR pl.isList h0 (by omega) (by rw[hj];simpa using ew) fin hs
 ·have hj:(i+(its.toArray.size:Int)).toNat=j:=by
   rw[seqIndex_neg (by omega) h4]at h1
   rw[Yt,<-hl]
   exact Yy h1
  exact subscriptTail_builtinR (x:=w) pl.isList.typeIs slot_list_getitem.lookup
   (wpAny_getItem_list_neg (Q:=λr s'=>r=w/\EP X pins σ Q r s') pl.isList (by omega) (by rw[Yt]<;>omega) (by omega) (by rw[hj];simpa using ew) ⟨rfl,fin⟩) hs
theorem Zhq:IxR X (rIxT X.K):=by
 intro value slice pins s σ H x y v u Q I rx ry h hs
 obtain⟨p,xs,i,z,rfl,rfl,hq,he,q⟩:=h
 cases rx
 obtain⟨t,rfl⟩:=ry
 obtain⟨its,r,pl,hz⟩:=I.tuple hq
 obtain⟨j,h1,h2,h3,h4,h5⟩:=Zme he
 obtain⟨w,ew,rw'⟩:=r.get h2
 have hl:=r.length
 have hn:=Zhn
 have fin:EP X pins σ Q w s:=⟨z,H,I,rw',q⟩
 exact subscriptTail_builtinR (x:=w) pl.typeIs slot_tuple_getitem.lookup
  (getItem_tuple (j:=j) (Q:=λr s'=>r=w/\EP X pins σ Q r s') pl (by omega) (by omega) (by rw[Yt,<-hl];exact h1) (by simpa using ew) ⟨rfl,fin⟩) hs
theorem Zln (its:List Value) (n j:Nat) (u:Value):Obj.mapSeq (·.setIfInBounds j u) {cls:=.type "list",data:=.seq its.toArray n}={cls:=.type "list",data:=.seq (its.set j u).toArray n}:=by
 simp[Obj.mapSeq]
theorem Inv.lst {pins:List (Addr×Obj)}{σ:St}{H:Hp}{s:Shared}{p:Addr}{xs:List V} (I:Inv X pins σ H s) (h:H p=some (.lst xs)) :
  ∃(its:List Value) (n:Nat),Vals xs its/\s.heap.get? p=some {cls:=.type "list",data:=.seq its.toArray n}/\xs.length<=sizeLine:=by
 obtain⟨z,its,n,r,e⟩:=I.hok p _ h
 exact⟨its,n,r,e,z⟩
theorem Inv.lstUpd {pins:List (Addr×Obj)}{σ:St}{H:Hp}{s:Shared}{p:Addr}{xs ys:List V}{its its':List Value}{n n':Nat}{f:Obj->Obj} (I:Inv X pins σ H s) (h:H p=some (.lst xs))
  (ho:s.heap.get? p=some {cls:=.type "list",data:=.seq its.toArray n}) (hf:f {cls:=.type "list",data:=.seq its.toArray n}={cls:=.type "list",data:=.seq its'.toArray n'}) (r:Vals ys its') (hz:ys.length<=sizeLine) (t:Nat) :
  Inv X pins σ (upd H p (.lst ys)) {s with heap:=s.heap.update p f,toks:=t}:=by
 have e:(s.heap.update p f).get? p=some {cls:=.type "list",data:=.seq its'.toArray n'}:=by
  rw[Heap.get?_update_self f ho (by rw[hf]<;>rfl),hf]
 refine I.write (x:=p) (e:=p) (by rw[h];trivial) (.inl rfl) (λb u hb q=>(Heap.get?_update_other _ _ (Ne.symm hb)).trans q) ⟨_,e⟩ ?_
 exact⟨hz,its',n',r,e⟩
noncomputable def rSetL:V->V->V->Hp->(Hp->Prop)->Prop:=λo i v H Q=>∃p xs k j,o=.ref p/\i=.int k/\H p=some (.lst xs)/\ixN xs.length k=some j/\Q (upd H p (.lst (xs.set j v)))
theorem set_list:PSet X rSetL:=by
 intro pins s σ H o i v ov iv u Q I ro ri rv h
 obtain⟨p,xs,k,j,rfl,rfl,hp,hj,q⟩:=h
 cases ro
 obtain⟨t,rfl⟩:=ri
 obtain⟨its,n,r,ho,hz⟩:=I.lst hp
 obtain⟨h1,h2,h3,h4⟩:=Zmd hj
 have hl:=r.length
 have hn:=Zhn
 have I':Inv X pins σ (upd H p (.lst (xs.set j v))) {s with heap:=s.heap.update p (Obj.mapSeq (·.setIfInBounds j u))} :=
  I.lstUpd hp ho (Zln its n j u) (r.set rv j) (by rw[List.length_set];exact hz) s.toks
 by_cases h0:0<=k
 ·have hk:k.toNat=j:=by
   rw[seqIndex_of h0 h4]at h1
   exact Yy h1
  exact PySem.W.ki_setAt ho h0 (by omega) (by rw[Yt,<-hl];exact h4) (by rw[hk];exact⟨_,I',q⟩)
 ·have hk:(k+(its.toArray.size:Int)).toNat=j:=by
   rw[seqIndex_neg (by omega) h3]at h1
   rw[Yt,<-hl]
   exact Yy h1
  exact PySem.W.ki_setBack ho (by omega) (by rw[Yt,<-hl];exact h3) (by omega) (by rw[hk];exact⟨_,I',q⟩)
theorem Zjk (lo hi:Option Int) (n:Nat):(sliceBounds lo hi none n).1=((HT.sIx n 0 lo:Nat):Int)/\(sliceBounds lo hi none n).2.1=((HT.sIx n n hi:Nat):Int)/\(sliceBounds lo hi none n).2.2=1:=by
 refine⟨?_,?_,rfl⟩
 ·cases lo with
  |none=>simp[sliceBounds,HT.sIx]
  |some i =>
   simp only[sliceBounds,HT.sIx,Option.getD_none,show(1:Int)>0 by decide,if_true]
   by_cases h:i<0
   ·simp only[h,if_true]<;>omega
   ·simp only[h,if_false]<;>omega
 ·cases hi with
  |none=>simp[sliceBounds,HT.sIx]
  |some i =>
   simp only[sliceBounds,HT.sIx,Option.getD_none,show(1:Int)>0 by decide,if_true]
   by_cases h:i<0
   ·simp only[h,if_true]<;>omega
   ·simp only[h,if_false]<;>omega
theorem Zin (its:List Value) (lo hi:Option Int):slicePick its.toArray lo hi none=((its.drop (HT.sIx its.length 0 lo)).take (HT.sIx its.length its.length hi-HT.sIx its.length 0 lo)).toArray:=by
 obtain⟨h1,h2,h3⟩:=Zjk lo hi its.toArray.size
 unfold slicePick
 rw[h1,h2,h3]
 simp only[sliceRange_one,pick_run,Yt]<;>rfl
noncomputable def rSlL (K:PySem.W.Frag):V->Option Int->Option Int->Hp->VK->Prop:=λx lo hi H Q=>∃a xs,x=.ref a/\SqL K H a xs/\∀p,H p=none->Q (.ref p) (upd H p (.lst (ZbW xs lo hi)))
theorem ZcK:SlR X (rSlL X.K):=by
 intro pins s σ H x v vl vu lo hi sl Q I rx hs pl pu h
 obtain⟨a,xs,rfl,hx,q⟩:=h
 cases rx
 obtain⟨its,r,ht,hz⟩:=I.list hx
 have hlen:=r.length
 refine⟨"list",_,slot_list_getitem.lookup,ht.isList.typeIs,?_⟩
 refine wpAny_getItem_list_slice ht.isList hs pl pu .none (by simp) ?_ (by rw[Yt]<;>omega)
 rw[Zin,<-hlen]
 refine⟨.ref s.heap.objs.size,_,I.laid (t':=s.toks) (o:=.lst (ZbW xs lo hi)) (λb ob q=>Yk _ q) (Yd _) ?_,rfl,q _ (I.hok.fresh (Yd _))⟩
 exact⟨Yf (Zgt xs lo hi) hz,_,0,(r.drop (HT.sIx xs.length 0 lo)).take (HT.sIx xs.length xs.length hi-HT.sIx xs.length 0 lo),Yp _ rfl⟩
noncomputable def flatV:V->Bool
 |.non=>true
 |.bl _=>true
 |.int _=>true
 |.str _=>true
 |_=>false
noncomputable def eqV:V->V->Bool
 |.non,.non=>true
 |.bl a,.bl b=>a==b
 |.bl a,.int b=>(if a then 1 else 0)==b
 |.int a,.bl b=>a==(if b then 1 else 0)
 |.int a,.int b=>a==b
 |.str a,.str b=>a==b
 |_,_=>false
theorem eqAt_V {A:Around}{s:Shared}{y x:V}{u v:Value} (ry:RelV y u) (rx:RelV x v) (fy:flatV y=true) (fx:flatV x=true):SeqAt.EqAt A s u v (eqV y x):=by
 cases y with
 |non =>
  cases ry
  cases x with
  |non=>cases rx;exact SeqAt.EqAt.same _
  |bl b=>cases rx;exact SeqAt.EqAt.none_bool b
  |int b=>obtain⟨t,rfl⟩:=rx;exact SeqAt.EqAt.none_int b t
  |str b=>obtain⟨t,rfl⟩:=rx;exact SeqAt.EqAt.none_str b t
  |_=>exact absurd (show false=true from fx) Yw
 |bl a =>
  cases ry
  cases x with
  |non=>cases rx;exact SeqAt.EqAt.bool_none a
  |bl b=>cases rx;exact SeqAt.EqAt.bool_bool a b
  |int b=>obtain⟨t,rfl⟩:=rx;exact SeqAt.EqAt.bool_int a b t
  |str b=>obtain⟨t,rfl⟩:=rx;exact SeqAt.EqAt.bool_str a b t
  |_=>exact absurd (show false=true from fx) Yw
 |int a =>
  obtain⟨t',rfl⟩:=ry
  cases x with
  |non=>cases rx;exact SeqAt.EqAt.int_none a t'
  |bl b=>cases rx;exact SeqAt.EqAt.int_bool a t' b
  |int b=>obtain⟨t,rfl⟩:=rx;exact SeqAt.EqAt.int_int a t' b t
  |str b=>obtain⟨t,rfl⟩:=rx;exact SeqAt.EqAt.int_str a t' b t
  |_=>exact absurd (show false=true from fx) Yw
 |str a =>
  obtain⟨t',rfl⟩:=ry
  cases x with
  |non=>cases rx;exact SeqAt.EqAt.str_none a t'
  |bl b=>cases rx;exact SeqAt.EqAt.str_bool a t' b
  |int b=>obtain⟨t,rfl⟩:=rx;exact SeqAt.EqAt.str_int a t' b t
  |str b=>obtain⟨t,rfl⟩:=rx;exact SeqAt.EqAt.str_str a t' b t
  |_=>exact absurd (show false=true from fx) Yw
 |_=>exact absurd (show false=true from fy) Yw
theorem Zjl:Zbl X (.builtin "len") (λxs H Q=>∃p ys,xs=[.ref p]/\(SqL X.K H p ys\/SqT X.K H p ys)/\Q (.int ys.length) H):=by
 intro pins s σ H xs us Q I r h
 obtain⟨p,ys,rfl,hq,q⟩:=h
 obtain⟨u,rfl,rx⟩:=vals1 r
 cases rx
 have hn:=Zhn
 rcases hq with hq|hq
 ·obtain⟨its,r',pl,hz⟩:=I.list hq
  have hlen:=r'.length
  exact Calls.call_len_list pl.isList (by simp only[Yt]<;>omega) ⟨.int ys.length,H,I.tok _,⟨s.toks+1,by rw[Yt,hlen]⟩,q⟩
 ·obtain⟨its,r',pl,hz⟩:=I.tuple hq
  have hlen:=r'.length
  exact len_tuple pl (by simp only[Yt]<;>omega) ⟨.int ys.length,H,I.tok _,⟨s.toks+1,by rw[Yt,hlen]⟩,q⟩
theorem Zio:Zbl X (.type "tuple") (λxs H Q=>∃p ys,xs=[.ref p]/\((SqL X.K H p ys/\∀l,H l=none->Q (.ref l) (upd H l (.tup ys)))\/(SqT X.K H p ys/\Q (.ref p) H))):=by
 intro pins s σ H xs us Q I r h
 obtain⟨p,ys,rfl,h⟩:=h
 obtain⟨u,rfl,rx⟩:=vals1 r
 cases rx
 rcases h with⟨hq,q⟩|⟨hq,q⟩
 ·obtain⟨its,r',pl,hz⟩:=I.list hq
  have hlen:=r'.length
  refine call_tuple_list pl.isList (λh' kp=>?_) (by simp only[Yt]<;>omega)
  have I1:Inv X pins σ H {s with heap:=h'}:=I.kept (t':=s.toks) kp
  have I2:Inv X pins σ (upd H h'.objs.size (.tup ys)) {s with heap:=h'.push {cls:=.type "tuple",data:=.seq its.toArray}} :=
   I1.laid (t':=s.toks) (λb o e=>Yk _ e) (Yd _) (show ZW X.prog X.w _ _ _ (.tup ys)from⟨hz,its,r',IsTup.new _ _⟩)
  exact⟨.ref h'.objs.size,_,I2,rfl,q _ (I1.hok.fresh (Yd _))⟩
 ·obtain⟨its,r',pl,hz⟩:=I.tuple hq
  exact call_tuple_same pl ⟨.ref p,H,I,rfl,q⟩
noncomputable def tyV (K:PySem.W.Frag) (T:String) (x:V) (H:Hp):Prop:=match x with
 |.str _=>T="str"
 |.int _=>T="int"
 |.ref p=>(T="list"/\∃xs,SqL K H p xs)\/(T="tuple"/\∃o,K.lookup p=some o/\o.cls=.type "tuple"/\o.dict=none) \/
   (T="dict"/\((∃kvs,H p=some (.dK kvs))\/∃kvs,H p=some (.dT kvs)))\/(T="set"/\∃S n,H p=some (.set S n))
 |_=>False
theorem Zn4 {pins:List (Addr×Obj)}{σ:St}{H:Hp}{s:Shared}{T:String}{x:V}{v:Value} (I:Inv X pins σ H s) (r:RelV x v) (ty:tyV X.K T x H) :
  s.TypeIs v T/\∀a,v=.ref a->∃ob,s.heap.get? a=some ob/\ob.dict=none:=by
 cases x with
 |str z =>
  obtain⟨t,rfl⟩:=r
  cases(show T="str" from ty)
  exact⟨typeIs_str s z t,λ_ e=>nomatch e⟩
 |int i =>
  obtain⟨t,rfl⟩:=r
  cases(show T="int" from ty)
  exact⟨typeIs_int s i t,λ_ e=>nomatch e⟩
 |ref p =>
  cases r
  rcases ty with⟨rfl,xs,hq⟩|⟨rfl,o,hk,hc,hd⟩|⟨rfl,hk⟩|⟨rfl,S,n,hk⟩
  ·obtain⟨its,_,pl,_⟩:=I.list hq
   refine⟨pl.isList.typeIs,λa e=>?_⟩
   cases e
   obtain⟨o,n,e,c,hd,_⟩:=pl
   exact⟨o,e,hd⟩
  ·refine⟨⟨o,I.kIn p o hk,hc⟩,λa e=>?_⟩
   cases e
   exact⟨o,I.kIn _ o hk,hd⟩
  ·have z:∃o,s.heap.get? p=some o/\o.ExactDict:=by
    rcases hk with⟨kvs,hk⟩|⟨kvs,hk⟩
    ·obtain⟨_,_,_,_,o,_,_,e,ex,_⟩:=I.hok p _ hk
     exact⟨o,e,ex⟩
    ·obtain⟨_,_,_,_,o,_,_,e,ex,_⟩:=I.hok p _ hk
     exact⟨o,e,ex⟩
   obtain⟨o,e,ex⟩:=z
   refine⟨⟨o,e,ex.1⟩,λa e2=>?_⟩
   cases e2
   exact⟨o,e,ex.2.1⟩
  ·obtain⟨o,_,_,_,e,ex,_⟩:=I.hok p _ hk
   refine⟨⟨o,e,ex.1⟩,λa e2=>?_⟩
   cases e2
   exact⟨o,e,ex.2.1⟩
 |_=>exact False.elim ty
noncomputable def tBM0 (K:PySem.W.Frag) (T:String) (r:V->List V->Hp->VK->Prop) (to:TE):TE:=fun σ H Q=>to σ H λx H1=>tyV K T x H1/\r x [] H1 Q
noncomputable def tBM (K:PySem.W.Frag) (T:String) (r:V->List V->Hp->VK->Prop) (to:TE) (t:TA):TE:=fun σ H Q=>to σ H λx H1=>tyV K T x H1/\t σ H1 λxs H2=>r x xs H2 Q
variable {o e:Expr}{es:List Expr}{to:TE}{t:TA}{name:Str}{apos cpos:Pos}{T id:String}{r:V->List V->Hp->VK->Prop}
theorem pe_bm0 (pa:PlainAttrs T) (slot:Slot T name id) (hty:typeOf (.builtin id)=pure (.type "method_descriptor")) (hm:MtR X id r) (ho:PE X o to)
  (hbase:attributeBase o name X.env (eval o X.env)=eval o X.env:=by rfl) (hline:(apos.endLine==cpos.line)=true:=by rfl):PE X (.Call (.Attribute o name apos) [] [] cpos) (tBM0 X.K T r to):=by
 intro pins s σ H Q I h
 refine wpAny_Call_method0_late hbase hline (thn (ho pins s σ H _ I h) λv s1 ⟨x,H1,I1,r1,ty,q1⟩=>?_)
 obtain⟨h1,h2⟩:=Zn4 I1 r1 ty
 exact⟨T,id,pa,slot,hty,h1,h2,Calls.callWith_builtin rfl (PySem.evalArgs_none (hm pins s1 σ H1 x [] v [] Q I1 r1 .nil q1))⟩
theorem ZeG (pa:PlainAttrs T) (slot:Slot T name id) (hty:typeOf (.builtin id)=pure (.type "method_descriptor")) (hm:MtR X id r) (ho:PE X o to) (ha:PA X (e::es) t)
  (hbase:attributeBase o name X.env (eval o X.env)=eval o X.env:=by rfl)
  (hfew:((backTo cpos (starEach (e::es) X.env)).all (λx=>!x.1)&&(backToKw cpos (keywordEach [] X.env)).all (λx=>x.1.isSome)
   && decide ((e::es).length+([]:List Keyword).length+(if ([]:List Keyword).isEmpty then 0 else 1)<30))=true:=by rfl)
  (hline:(apos.endLine==cpos.line)=true:=by rfl) (hs:starEach (e::es) X.env=(false,eval e X.env)::starEach es X.env:=by rfl) (hplain:(backTo cpos (starEach es X.env)).any (·.1)=false:=by rfl) :
  PE X (.Call (.Attribute o name apos) (e::es) [] cpos) (tBM X.K T r to t):=by
 intro pins s σ H Q I h
 refine wpAny_Call_method_late hbase hfew hline rfl (thn (ho pins s σ H _ I h) λv s1 ⟨x,H1,I1,r1,ty,q1⟩=>?_)
 obtain⟨h1,h2⟩:=Zn4 I1 r1 ty
 refine⟨T,id,pa,slot,hty,h1,h2,?_⟩
 have hA:=ha cpos pins s1 σ H1 _ I1 q1
 rw[hs]at hA⊢
 refine Calls.callWith_builtin (by show(false||(backTo cpos (starEach es X.env)).any (·.1))=false;rw[hplain]<;>rfl) (Calls.evalArgs_plain ?_)
 exact thn hA λus s2 ⟨vs,H2,I2,r2,q2⟩=>hm pins s2 σ H2 x vs v us Q I2 r1 r2 q2
end
noncomputable def MtM (X:Cx) (id:String) (r:V->List V->Hp->VK->Prop):Prop :=
 ∀(pins:List (Addr×Obj)) (s:Shared) (σ:St) (H:Hp) (x:V) (xs:List V) (v:Value) (us:List Value) (Q:VK),Inv X pins σ H s->RelV x v->Vals xs us->r x xs H Q ->
  wpAny (model X.prog X.w) X.A (call (.builtin id) (v::us)) (EP X pins σ Q) X.xe s
theorem Vals.one:∀{x:V}{us:List Value},Vals [x] us->∃u,us=[u]/\RelV x u
 |_,_,.cons r .nil=>⟨_,rfl,r⟩
theorem Vals.two:∀{x y:V}{us:List Value},Vals [x,y] us->∃u v,us=[u,v]/\RelV x u/\RelV y v
 |_,_,_,.cons r (.cons q .nil)=>⟨_,_,rfl,r,q⟩
theorem Vals.zero:∀{us:List Value},Vals [] us->us=[]
 |_,.nil=>rfl
theorem Vals.dropLast {xs:List V}{us:List Value} (h:Vals xs us):Vals xs.dropLast us.dropLast:=by
 induction h with
 |nil=>exact .nil
 |cons r t ih =>
  cases t with
  |nil=>exact .nil
  |cons q t'=>exact .cons r ih
theorem Vals.rep {xs:List V}{us:List Value} (h:Vals xs us):∀k:Nat,Vals (List.replicate k xs).flatten (List.replicate k us).flatten
 |0=>.nil
 |k+1=>by
  rw[List.replicate_succ,List.replicate_succ,List.flatten_cons,List.flatten_cons]
  exact Vals.append h (Vals.rep h k)
theorem Zlo {α:Type} (l:List α):l.eraseIdx (l.length-1)=l.dropLast:=by
 induction l with
 |nil=>rfl
 |cons a r ih =>
  cases r with
  |nil=>rfl
  |cons b r =>
   have e:(a::b::r).length-1=((b::r).length-1)+1:=by
    have h1:(a::b::r).length=r.length+2:=rfl
    have h2:(b::r).length=r.length+1:=rfl
    omega
   rw[e,List.eraseIdx_cons_succ,ih]
   all_goals rfl
theorem foldl_rep (its:List Value):∀(k:Nat) (acc:List Value),
  List.foldl (λx1 x2=>x1++x2) acc.toArray (List.replicate k its.toArray)=(acc++(List.replicate k its).flatten).toArray
 |0,acc=>by simp
 |k+1,acc=>by
  have e:acc.toArray++its.toArray=(acc++its).toArray:=by simp
  have e2:(acc++its)++(List.replicate k its).flatten=acc++(List.replicate (k+1) its).flatten:=by
   rw[List.replicate_succ,List.flatten_cons,YT]
  rw[<-e2,<-foldl_rep its k (acc++its),<-e,List.replicate_succ,List.foldl_cons]
section
variable {X:Cx}{pins:List (Addr×Obj)}{σ:St}{H:Hp}{s:Shared}{l b:Addr}{xs ys zs:List V}
theorem Inv.lset {its its':List Value}{n:Nat}{f:Array Value->Array Value}{t':Nat} (I:Inv X pins σ H s) (hH:H l=some (.lst xs))
  (e:s.heap.get? l=some {cls:=.type "list",data:=.seq its.toArray n}) (hf:f its.toArray=its'.toArray) (hv:Vals ys its') (hz:ys.length<=sizeLine) :
  Inv X pins σ (upd H l (.lst ys)) {s with heap:=s.heap.update l (Obj.mapSeq f),toks:=t'}:=by
 have q:=PySem.IsL.update e f
 rw[hf]at q
 refine I.write (x:=l) (e:=l) (by rw[hH];exact trivial) (.inl rfl) (λb' u hb hu=>(Heap.get?_update_other s.heap (Obj.mapSeq f) (Ne.symm hb)).trans hu) ⟨_,q⟩ ?_
 exact⟨hz,its',_,hv,q⟩
theorem Inv.lnew {its:List Value}{t':Nat} (I:Inv X pins σ H s) (hv:Vals ys its) (hz:ys.length<=sizeLine) :
  Inv X pins σ (upd H s.heap.objs.size (.lst ys)) {s with heap:=s.heap.push {cls:=.type "list",data:=.seq its.toArray},toks:=t'} :=
 I.laid (λ_ _ q=>Yk _ q) (Yd _) ⟨hz,its,0,hv,Yp _ rfl⟩
theorem Inv.fresh (I:Inv X pins σ H s):H s.heap.objs.size=none:=I.hok.fresh (Yd _)
theorem Inv.ZmN (I:Inv X pins σ H s) (hH:H l=some (.lst xs)):xs.length<=sizeLine/\∃(its:List Value) (n:Nat),Vals xs its/\xs.length=its.length/\s.heap.get? l=some {cls:=.type "list",data:=.seq its.toArray n}:=by
 obtain⟨z,its,n,r,e⟩:=I.hok l _ hH
 exact⟨z,its,n,r,r.length,e⟩
theorem Zn5 {n:Nat} (h:n<=sizeLine):Builtin.List.listTooLong n=false:=by
 unfold Builtin.List.listTooLong
 exact YR (by omega)
end
section
variable {X:Cx}
noncomputable def rAppend:V->List V->Hp->VK->Prop:=λx vs H Q=>∃l xs y,x=.ref l/\vs=[y]/\H l=some (.lst xs)/\xs.length<sizeLine/\Q .non (upd H l (.lst (xs++[y])))
theorem Zau:MtM X "list.append" rAppend:=by
 intro pins s σ H x vs v us Q I rx rv h
 obtain⟨l,xs,y,rfl,rfl,hH,hz,q⟩:=h
 cases rx
 obtain⟨u,rfl,ru⟩:=rv.one
 obtain⟨z,its,n,r,hl,e⟩:=I.ZmN hH
 refine call_meets F.slot_list_append ⟨_,e,rfl⟩ F.entry_list_append (F.args_list_append_2 _ _) (PySem.list_append l its.toArray n u (by rw[Yt];omega)) ⟨e,?_⟩
 refine⟨.non,_,I.lset (its':=its++[u]) hH e (by simp) (r.append (.cons ru .nil)) ?_,rfl,q⟩
 rw[YD,List.length_singleton]
 omega
noncomputable def rPop:V->List V->Hp->VK->Prop:=λx vs H Q=>∃l xs y,x=.ref l/\vs=[]/\H l=some (.lst xs)/\xs[xs.length-1]?=some y/\Q y (upd H l (.lst xs.dropLast))
theorem mt_pop:MtM X "list.pop" rPop:=by
 intro pins s σ H x vs v us Q I rx rv h
 obtain⟨l,xs,y,rfl,rfl,hH,hy,q⟩:=h
 cases rx
 have hus:=rv.zero
 subst hus
 obtain⟨z,its,n,r,hl,e⟩:=I.ZmN hH
 obtain⟨u,hu,ru⟩:=r.get hy
 have hy':its.toArray[its.toArray.size-1]?=some u:=by
  show its.toArray[its.length-1]?=some u
  rw[<-Array.getElem?_toList,<-hl]
  exact hu
 refine call_meets F.slot_list_pop ⟨_,e,rfl⟩ F.entry_list_pop (F.args_list_pop_1 _) (MeetsSeq.list_pop_last l its.toArray n u hy' (by rw[Yt];omega)) ⟨e,?_⟩
 refine⟨y,_,I.lset (its':=its.dropLast) hH e ?_ r.dropLast ?_,ru,q⟩
 ·show its.toArray.eraseIdxIfInBounds (its.toArray.size-1)=its.dropLast.toArray
  rw[Yt,List.eraseIdxIfInBounds_toArray,Zlo]
 ·rw[List.length_dropLast]
  omega
noncomputable def rCat:R2:=λx y H Q=>∃l b xs zs,x=.ref l/\y=.ref b/\H l=some (.lst xs)/\H b=some (.lst zs)/\xs.length+zs.length<=sizeLine/\∀p,H p=none->Q (.ref p) (upd H p (.lst (xs++zs)))
theorem Zhr:OpR X (binaryOp .Add) rCat:=by
 intro pins s σ H x y v u Q I rx ry h
 obtain⟨l,b,xs,zs,rfl,rfl,hH,hB,hz,q⟩:=h
 cases rx
 cases ry
 obtain⟨z,its,n,r,hl,e⟩:=I.ZmN hH
 obtain⟨z2,its2,n2,r2,hl2,e2⟩:=I.ZmN hB
 refine PySem.P.add_list e e2 ?_ (by rw[Yt,Yt];omega)
 have ea:its.toArray++its2.toArray=(its++its2).toArray:=by simp
 rw[ea]
 exact⟨.ref _,_,I.lnew (t':=s.toks) (r.append r2) (by rw[YD];omega),rfl,q _ I.fresh⟩
noncomputable def rRep:R2:=λx y H Q=>∃l k xs,x=.ref l/\y=.int k/\H l=some (.lst xs)/\-(2 ^ 63)<=k/\k<2 ^ 63/\xs.length*k.toNat<=sizeLine /\
 ∀p,H p=none->Q (.ref p) (upd H p (.lst (List.replicate k.toNat xs).flatten))
theorem len_rep {α:Type} (xs:List α) (k:Nat):(List.replicate k xs).flatten.length=k*xs.length:=by
 induction k with
 |zero=>simp
 |succ k ih=>rw[List.replicate_succ,List.flatten_cons,YD,ih,Nat.succ_mul,Nat.add_comm]
theorem ZcL:OpR X (binaryOp .Mult) rRep:=by
 intro pins s σ H x y v u Q I rx ry h
 obtain⟨l,k,xs,rfl,rfl,hH,h1,h2,hz,q⟩:=h
 cases rx
 obtain⟨t,rfl⟩:=ry
 obtain⟨z,its,n,r,hl,e⟩:=I.ZmN hH
 have hlen:its.toArray.size*k.toNat<=sizeLine:=by rw[Yt,<-hl];exact hz
 have hcap:¬ its.toArray.size*k.toNat>(2 ^ 63-1) / 8:=by
  have:(sizeLine:Nat)<=(2 ^ 63-1) / 8:=by decide
  omega
 have hfit:¬ (!Builtin.List.listFitsIndex k)=true:=by
  rw[fitsIndex_both h1 h2]
  exact Yw
 have hlong:¬ Builtin.List.listTooLong (its.toArray.size*k.toNat)=true:=by
  rw[Zn5 hlen]
  exact Yw
 have hnew:List.foldl (λx1 x2=>x1++x2) #[] (List.replicate (if its.toArray.isEmpty=true then 0 else k.toNat) its.toArray)=(List.replicate k.toNat its).flatten.toArray:=by
  have f0:∀m:Nat,List.foldl (λx1 x2=>x1++x2) #[] (List.replicate m its.toArray)=(List.replicate m its).flatten.toArray:=λm=>by
   have:=foldl_rep its m []
   rw[List.nil_append]at this
   exact this
  rw[f0]
  cases its with
  |nil=>simp
  |cons a r'=>rw[Yb (by simp)]
 refine wpAny_binaryOp_repeat_ref (T:="list") (U:="int") (by decide) ⟨_,e,rfl⟩ (λs'=>typeIs_int s' k t) noFill_list_mul F.fills_int_mul F.slot_int_rmul repeat_list F.slot_int_index.lookup
  (call_meets F.slot_int_rmul (typeIs_int s k t) F.entry_int_rmul (F.args_int_rmul_2 _ _) (int___rmul___int_list k t l its.toArray n)
   ⟨e,rfl,⟨_,e,rfl⟩,call_meets F.slot_list_mul ⟨_,e,rfl⟩ F.entry_list_mul (F.args_list_mul_2 _ _) (AutoListH.list___mul___list_int_3 l its.toArray n k t hfit hcap hlong) ⟨e,?_⟩⟩)
 rw[hnew]
 exact⟨.ref _,_,I.lnew (t':=s.toks) (r.rep k.toNat) (by rw[len_rep,Nat.mul_comm];exact hz),rfl,q _ I.fresh⟩
end
end L2
namespace Att
open PySem PySem.W PySem.Calls PyProof.Rows
theorem Zg3 {P:Params}{h:Heap}:∀(ns:List Int) (vs:List Value),WellAll P h vs (ns.map WData.int)->IntsAre vs ns:=by
 intro ns
 induction ns with
 |nil =>
  intro vs w
  rw[List.map_nil]at w
  cases w
  exact .nil
 |cons n ns ih =>
  intro vs w
  rw[YA]at w
  cases w with
  |cons a b =>
   cases a
   exact .cons _ _ (ih _ b)
theorem ZmO {l:OpenLaw}{n:Nat} (hn:l.most=some n) {P:Params}{h:Heap}{args:List WData}{vals:List Value}
  (hpre:l.row.toRowW.claim.pre args=true) (hwl:WellAll P h vals args) :
  ∃a vs ns,vals=[Value.ref a]/\args=[WData.list (ns.map WData.int)]/\h.get? a=some {cls:=.type "list",data:=.seq vs.toArray}/\IntsAre vs ns/\ns.length<=n:=by
 have hsh:WShape.hasAll [] args [.list .int]=true:=(pre_splitW hpre).1
 have hc:l.pre.holds [] {args:=args}=true:=(pre_splitW hpre).2
 obtain⟨d,r,rfl,h1,h2⟩:=hasAllW_cons hsh
 obtain rfl:=hasAllW_nil h2
 obtain⟨xs,rfl,h3⟩:=hasW_list h1
 obtain⟨ns,rfl⟩:=items_int h3
 have hlen:ns.length<=n:=by
  unfold OpenLaw.pre at hc
  have h4:(WTm.not (.lt (.lit (.int (n:Int))) (.len (.arg 0)))).holds [] {args:=[.list (ns.map .int)]}=true:=by
   have h4:=(holds_andW hc).1
   rw[hn]at h4
   exact h4
  have h5:=condW_of h4 (w_not (w_lt w_lit (w_len_list (w_arg rfl))))
  rw[Yi]at h5
  refine Nat.le_of_not_lt λq=>?_
  have q':(n:Int)<((ns.length:Nat):Int):=by omega
  first
   |(rw[Y2 q']at h5;exact absurd h5 (by decide))
   |(simp at h5;omega)
 cases hwl with
 |cons w1 w2 =>
  cases w2
  cases w1 with
  |list ho hall=>exact⟨_,_,ns,rfl,rfl,ho,Zg3 ns _ hall,hlen⟩
theorem ZmP (l:OpenLaw) (args:List WData):l.row.toRowW.claim.post args (.bool true) args=true :=
 postW_of (r:=l.row.toRowW) (X:=(true==true))
  (show WShape.has [] (.bool true) .bool=true by first|rfl|decide|simp[WShape.has,WShape.arms,WShape.armsAll])
  (show(WTm.eq .res (.lit (.bool true))).value [] {args:=args,res:=some (.bool true),after:=args}=some (.bool (true==true))from w_eq_bool (w_res rfl) w_lit) rfl
theorem Zkg {l:OpenLaw}{n:Nat}{q:Program}{loose:List Str}{XP:(Str->Option Value)->Heap->Prop}{YP:World->Heap->Prop}{d:DefRec}
  (hn:l.most=some n) (hdf:d.params.defaults=[])
  (call:∀(w:World) (s₀ s₁:Shared) (mg mb:Str->Option Value) (fa:Addr) (o:Obj) (pm cd doc:Value) (a:Addr) (vs:List Value) (ns:List Int),
   Ground q loose [] XP w s₀ mg mb s₁.heap->YP w s₁.heap ->
   s₁.heap.get? fa=some o->o.data=.func (docDef d.name d.params d.body d.scope pm cd doc)->s₁.heap.CodeRec cd d.name->mg d.name=some (.ref fa) ->
   s₁.heap.get? a=some {cls:=.type "list",data:=.seq vs.toArray}->IntsAre vs ns->ns.length<=n->s₁.gens=#[] ->
   codeAny (model l.prog w) callerA (.call (.ref fa) ⟨[.ref a],[]⟩) (λr s'=>r=.ok (.ret (.bool true))/\OldK s₁.heap s'.heap/\s'.os=s₁.os/\AllBare s'.gens) s₁) :
  WalkO q loose XP YP l.row.toRowW d [] (λf vs=>PySem.call f vs):=by
 intro w s₀ s₁ mg mb G Y fa o pm cd doc dV kV ho hd hcd hD hmg hg args vals as hpre hlay hrd hwl hlo
 obtain rfl:dV=.none:=Dflts.none hD hdf
 obtain rfl:kV=.none:=Dflts.noKw hD
 obtain⟨a,vs,ns,rfl,rfl,hobj,hints,hlen⟩:=ZmO hn hpre hwl
 refine enter_call (codeAny_mono (call w s₀ s₁ mg mb fa o pm cd doc a vs ns G Y ho (fd_plain hd) hcd hmg hobj hints hlen hg) λr s' hq=>?_)
 obtain⟨rfl,h2,h3,h4⟩:=hq
 exact⟨.inl ⟨.bool true,.bool true,[],rfl,λ_=>rfl,.bool true,ZmP l _,λ_=>⟨List.Pairwise.nil,λ_ hm=>(nomatch hm)⟩⟩,h2,h3,h4⟩
end Att
namespace L2
open PySem PySem.Spec PyProof.Rows
theorem Zf2:∀{vs:List Value}{ns:List Int},IntsAre vs ns->Vals (ns.map V.int) vs
 |_,_,.nil=>.nil
 |_,_,.cons n t h=>.cons ⟨t,rfl⟩ (Zf2 h)
noncomputable def inClass (s:Stmt) (j:Nat):Stmt:=match s with
 |.ClassDef _ _ _ body _ _ _ _ _ _ _=>body.getD j (.Pass ⟨0,0,0,0⟩)
 |_=>.Pass ⟨0,0,0,0⟩
noncomputable def defArgs (s:Stmt):Arguments:=match s with
 |.FunctionDef _ a _ _ _ _ _ _ _ _=>a
 |_=>{posonlyargs:=[],args:=[],vararg:=none,kwonlyargs:=[],kw_defaults:=[],kwarg:=none,defaults:=[]}
noncomputable def defBody (s:Stmt):List Stmt:=match s with
 |.FunctionDef _ _ b _ _ _ _ _ _ _=>b
 |_=>[]
noncomputable def defScope (s:Stmt):Scope:=match s with
 |.FunctionDef _ _ _ _ _ _ sc _ _ _=>sc
 |_=>{kind:=.function,names:=[],isGenerator:=false,isCoroutine:=false}
noncomputable abbrev E0:XK:=λ_ _ _=>False
structure Fun (K:PySem.W.Frag) (x qual:Str) (st:Stmt) (f:Addr) (fd:FuncData):Prop where
 ex:∃(oc:Value) (od:Option Addr) (kV doc pm:Value) (an:Option Addr) (cdv ct:Value) (osl:Array (Option Value)),
  fd=PySem.W.fnOf x qual (defArgs st) (defBody st) (defScope st) .none kV doc pm an cdv ct/\K.lookup f=some ⟨oc,od,.func fd,osl⟩/\PySem.W.codeIn K cdv qual=true
 kp:PySem.W.keepIn K (.ref f)=true
section
variable {P:Program}{w:World}{K:PySem.W.Frag}{mg:Str->Option Value}{base:Heap}
theorem Fun.binds {x qual:Str}{st:Stmt}{f:Addr}{fd:FuncData}{ps:List Str} (F:Fun K x qual st f fd)
  (h:∀(kV doc pm:Value) (an:Option Addr) (cdv ct:Value) (us:List Value),us.length=ps.length->bindArgs (PySem.W.fnOf x qual (defArgs st) (defBody st) (defScope st) .none kV doc pm an cdv ct) ⟨us,[]⟩=pure (ps.zip us)):Binds K fd ps []:=by
 obtain⟨oc,od,kV,doc,pm,an,cdv,ct,osl,rfl,lk,hcd⟩:=F.ex
 exact .all (h kV doc pm an cdv ct)
theorem Zt {x qual:Str}{st:Stmt}{f:Addr}{oc:Value}{od an:Option Addr}{osl:Array (Option Value)}{kV doc pm cdv ct:Value} (l:K.lookup f=some ⟨oc,od,.func (PySem.W.fnOf x qual (defArgs st) (defBody st) (defScope st) .none kV doc pm an cdv ct),osl⟩)
  (c:PySem.W.codeIn K cdv qual=true) (k:PySem.W.keepIn K (.ref f)=true):Fun K x qual st f (PySem.W.fnOf x qual (defArgs st) (defBody st) (defScope st) .none kV doc pm an cdv ct):=⟨⟨oc,od,kV,doc,pm,an,cdv,ct,osl,rfl,l,c⟩,k⟩
end
theorem Zn6 {A:Around}{k:Nat} (hr:Room k A):A.units+1<cLine:=Ys (Nat.add_le_add_left (by decide:1<=64) _) hr.units
section
variable {X:Cx}
theorem pv (i:Nat) {x:Str}{pos:Pos} (hN:X.N[i]?=some x:=by rfl) (hv:Vis X.env.scope x:=by first|exact Or.inl rfl|exact Or.inr (Or.inl rfl)|exact Or.inr (Or.inr rfl)) (hd:(x==("__debug__":Str))=false:=by decide)
  (hcd:(x==("__classdict__":Str))=false:=by decide):PE X (.Name x pos) (tVar i):=pe_var hN hv hd hcd
end
theorem Z2 {c A B:Prop} [Decidable c] (h1:c->A) (h2:¬ c->B):if c then A else B:=by
 by_cases h:c
 ·rw[Yc h]
  exact h1 h
 ·rw[Yb h]
  exact h2 h
noncomputable def Zf (H H':Hp):Prop:=∀b o,H b=some o->H' b=some o
theorem Zf.refl (H:Hp):Zf H H:=λ_ _ h=>h
theorem Zf.trans {H H1 H2:Hp} (a:Zf H H1) (b:Zf H1 H2):Zf H H2:=λc o h=>b c o (a c o h)
theorem Zf.free {H H':Hp} (e:Zf H H') {l:Addr} (h:H' l=Option.none):H l=Option.none:=by
 cases q:H l with
 |none=>rfl
 |some o =>
  rw[e l o q]at h
  cases h
theorem Zf.seq {K:PySem.W.Frag}{H H':Hp}{a:Addr}{xs:List V} (e:Zf H H') (h:SqL K H a xs):SqL K H' a xs:=by
 rcases h with(h|⟨o,h⟩)|h
 ·exact .inl (.inl (e _ _ h))
 ·exact .inl (.inr ⟨o,e _ _ h⟩)
 ·exact .inr h
theorem ZcM {env:Env}:∀(names:List (Str×NameKind)) (cs0:List (Str×Addr)),(∀y∈names,y.2=.free->∃c,env.cells.lookup y.1=some c) ->
  ∃cl,(forIn names cs0 (λ(x:Str×NameKind) r=>(do
   match x with
   |(name,kind)=>if (kind==NameKind.free)=true then do let a <-cellOf env name;pure (ForInStep.yield ((name,a)::r))else pure (ForInStep.yield r)):_->_->Sem (ForInStep (List (Str×Addr)))))=pure cl /\
   (∀p∈cl,p∈cs0\/env.cells.lookup p.1=some p.2)/\(∀p∈cs0,p∈cl)/\(∀y∈names,y.2=.free->∃c,(y.1,c)∈cl)
 |[],cs0,_=>⟨cs0,rfl,λp h=>.inl h,λp h=>h,λy h=>by cases h⟩
 |(n,k)::r,cs0,h=>by
  by_cases hk:k=.free
  ·subst hk
   obtain⟨c,hc⟩:=h (n,.free) (.head _) rfl
   obtain⟨cl,e,h1,h2,h3⟩:=ZcM r ((n,c)::cs0) λy hy=>h y (.tail _ hy)
   refine⟨cl,?_,λp hp=>?_,λp hp=>h2 p (.tail _ hp),λy hy hf=>?_⟩
   ·rw[List.forIn_cons]
    have e1:cellOf env n=pure c:=by unfold cellOf;rw[hc]
    simp only[beq_self_eq_true,if_true,e1,pure_bind]
    exact e
   ·rcases h1 p hp with q|q
    ·rcases Yo.mp q with q|q
     ·subst q;exact .inr hc
     ·exact .inl q
    ·exact .inr q
   ·rcases Yo.mp hy with q|q
    ·subst q;exact⟨c,h2 _ (.head _)⟩
    ·exact h3 y q hf
  ·obtain⟨cl,e,h1,h2,h3⟩:=ZcM r cs0 λy hy=>h y (.tail _ hy)
   refine⟨cl,?_,h1,h2,λy hy hf=>?_⟩
   ·rw[List.forIn_cons]
    have e1:(k==NameKind.free)=false:=by cases k<;>first|rfl|exact absurd rfl hk
    simp only[e1,Bool.false_eq_true,if_false,pure_bind]
    exact e
   ·rcases Yo.mp hy with q|q
    ·subst q;exact absurd hf hk
    ·exact h3 y q hf
theorem Zlp {env:Env}{scope:Scope} (h:∀y∈scope.names,y.2=.free->∃c,env.cells.lookup y.1=some c) :
  ∃cl,closureFor scope env=pure cl/\(∀x c,cl.lookup x=some c->env.cells.lookup x=some c)/\(∀y∈scope.names,y.2=.free->∃c,cl.lookup y.1=some c/\env.cells.lookup y.1=some c):=by
 obtain⟨cl,e,h1,h2,h3⟩:=ZcM (env:=env) scope.names [] h
 have up:∀x c,cl.lookup x=some c->env.cells.lookup x=some c:=λx c q=>by
  rcases h1 _ (PySem.mem_of_lookup q)with z|z
  ·cases z
  ·exact z
 refine⟨cl,?_,up,λy hy hf=>?_⟩
 ·unfold closureFor
  simp only[bind_pure_comp]at e⊢
  rw[e]
  exact pure_bind _ _
 ·obtain⟨c,hc⟩:=h3 y hy hf
  cases q:cl.lookup y.1 with
  |none=>exact absurd (List.lookup_eq_none_iff.mp q _ hc) (by simp)
  |some c'=>exact⟨c',rfl,up _ _ q⟩
noncomputable def compOk (around scope:Scope):Bool :=
 scope.kind==.function&&around.kind==.function&&scope.names.all λy=>match y.2 with
  |.local=>scope.names.lookup y.1==some .local
  |.cell=>false
  |.free=>(scope.names.lookup y.1==some .free)&&(around.names.lookup y.1==some .cell||around.names.lookup y.1==some .free)
  |_=>true
theorem Zgu {a s:Scope} (h:compOk a s=true):s.kind=.function:=by
 simp only[compOk,Bool.and_eq_true,beq_iff_eq]at h;exact h.1.1
theorem ZiI {a s:Scope} (h:compOk a s=true) {y:Str×NameKind} (hy:y∈s.names):(match y.2 with
  |.local=>s.names.lookup y.1==some .local
  |.cell=>false
  |.free=>(s.names.lookup y.1==some .free)&&(a.names.lookup y.1==some .cell||a.names.lookup y.1==some .free)
  |_=>true)=true:=by
 simp only[compOk,Bool.and_eq_true]at h
 exact List.all_eq_true.mp h.2 y hy
theorem Zgv {a s:Scope} (h:compOk a s=true):∀y∈s.names,y.2≠.cell:=λy hy e=>by
 have q:=ZiI h hy
 rw[e]at q
 cases q
theorem Zgw {a s:Scope} (h:compOk a s=true):∀y∈s.names,y.2=.free->a.names.lookup y.1=some .cell\/a.names.lookup y.1=some .free:=λy hy e=>by
 have q:=ZiI h hy
 rw[e]at q
 simp only[Bool.and_eq_true,Bool.or_eq_true,beq_iff_eq]at q
 exact q.2
theorem ZaZ {env:Env}:∀{names:List (Str×NameKind)}{x:Str}{k:NameKind},(names.map λ(n,k)=>if (k==NameKind.free&&env.scope.kind==.function&&env.kindOf n==some .cell)then (n,NameKind.cell)else (n,k)).lookup x=some k ->
  ∃k',names.lookup x=some k'/\(k=k'\/(k'=.free/\k=.cell))
 |[],_,_,h=>by simp at h
 |(n,k0)::r,x,k,h=>by
  by_cases hx:x=n
  ·subst hx
   refine⟨k0,by simp,?_⟩
   simp only[YA]at h
   split at h
   ·rename_i hc
    simp only[Bool.and_eq_true,beq_iff_eq]at hc
    simp only[List.lookup_cons_self,Option.some.injEq]at h
    exact .inr ⟨hc.1.1,h.symm⟩
   ·simp only[List.lookup_cons_self,Option.some.injEq]at h
    exact .inl h.symm
  ·have hb:(x==n)=false:=by simpa using hx
   simp only[YA]at h
   have e2:∀k1,((n,k1)::r).lookup x=r.lookup x:=λk1=>by simp[List.lookup_cons,hb]
   split at h<;>(simp only[List.lookup_cons,hb]at h;obtain⟨k',h1,h2⟩:=ZaZ h;exact⟨k',by rw[e2];exact h1,h2⟩)
noncomputable def Zn7 (X:Cx) (Nc:List Str) (scope:Scope) (cl:List (Str×Addr)) (C:Addr) (s2:Shared) (H2:Hp) (fp:List Addr):Cx where
 prog:=X.prog
 w:=X.w
 K:=X.K
 mg:=X.mg
 base:=X.base
 A:=X.A
 N:=Nc
 s₀:=s2
 H₀:=H2
 env:=compEnvC scope cl C X.env
 outer:=X.stack
 stack:=X.stack
 ex:=fp
 fn:=λ_=>false
 calm:=X.calm
 pn:=[]
 xe:=λ_ _=>False
noncomputable def iniC (js:List (Option Nat)) (σ:St):St:=js.map λj=>match j with
 |none=>none
 |some i=>(σ[i]?).join
noncomputable def takesC (N Nc:List Str) (scope:Scope):List (Option Nat)->Nat->Bool
 |[],i=>i==Nc.length
 |none::r,i=>takesC N Nc scope r (i+1)
 |some j::r,i=>(match Nc[i]?,N[j]? with
  |some x,some y=>x==y&&scope.names.lookup x==some .free
  |_,_=>false)&&takesC N Nc scope r (i+1)
theorem ZcN {N Nc:List Str}{scope:Scope}:∀{js:List (Option Nat)}{i:Nat},takesC N Nc scope js i=true->i+js.length=Nc.length
 |[],i,h=>by simpa[takesC]using h
 |none::r,i,h=>by
  have:=ZcN (js:=r) (i:=i+1) (by simpa[takesC]using h)
  simp only[Yn];omega
 |some j::r,i,h=>by
  simp only[takesC,Bool.and_eq_true]at h
  have:=ZcN (js:=r) (i:=i+1) h.2
  simp only[Yn];omega
theorem Zes {N Nc:List Str}{scope:Scope}:∀{js:List (Option Nat)}{i k j:Nat},takesC N Nc scope js i=true->js[k]?=some (some j)->∃x,Nc[i+k]?=some x/\N[j]?=some x/\scope.names.lookup x=some .free
 |[],i,k,j,h,e=>by simp at e
 |none::r,i,0,j,h,e=>by simp at e
 |none::r,i,k+1,j,h,e=>by
  obtain⟨x,h1,h2,h3⟩:=Zes (js:=r) (i:=i+1) (k:=k) (j:=j) (by simpa[takesC]using h) (by simpa using e)
  exact⟨x,by rw[<-h1];congr 1;omega,h2,h3⟩
 |some j0::r,i,0,j,h,e=>by
  simp only[takesC,Bool.and_eq_true]at h
  simp only[List.getElem?_cons_zero,Option.some.injEq]at e
  subst e
  cases e1:Nc[i]? with
  |none=>rw[e1]at h;simp at h
  |some x =>
   cases e2:N[j0]? with
   |none=>rw[e1,e2]at h;simp at h
   |some y =>
    rw[e1,e2]at h
    simp only[Bool.and_eq_true,beq_iff_eq]at h
    exact⟨x,by simpa using e1,by rw[h.1.1],h.1.2⟩
 |some j0::r,i,k+1,j,h,e=>by
  simp only[takesC,Bool.and_eq_true]at h
  obtain⟨x,h1,h2,h3⟩:=Zes (js:=r) (i:=i+1) (k:=k) (j:=j) h.2 (by simpa using e)
  exact⟨x,by rw[<-h1];congr 1;omega,h2,h3⟩
section
variable {X:Cx}
theorem lookup_mem {names:List (Str×NameKind)}{x:Str}{k:NameKind} (h:names.lookup x=some k):(x,k)∈names:=PySem.mem_of_lookup h
theorem Zdu {prog:Program}{w:World}{A:Around}{R:Result->Shared->Prop}{s:Shared}{elt target iter:Expr}{ifs:List Expr}{scope:Scope}{pos:Pos}{it acc:Value}{env:Env} (I:Nat->Shared->Prop)
  (turn:∀n s,I n s->wpAny (model prog w) A (pyNext it) (λr s₁=>match r with
   |none=>R (.ok .next) s₁
   |some v=>wpAny (model prog w) A (letOwnedTupleGo target it v) (λ_ s₁=>wpAny (model prog w) A (assign target env v) (λ_ s₂ =>
     wpAny (model prog w) A (forIn ifs true λc r=>if r=true then do let ok <-isTrue c env (eval c env);pure (ForInStep.yield ok)else pure (ForInStep.yield r)) (λok s₃ =>
      if ok=true then wpAny (model prog w) A (eval elt env) (λx s₄ =>
       wpAny (model prog w) A (call (.builtin "list.append") [acc,x]) (λ_ s₅=>∃m,m<n/\I m s₅) (λ_ _=>False) s₄) (λ_ _=>False) s₃
      else ∃m,m<n/\I m s₃) (λ_ _=>False) s₂) (λ_ _=>False) s₁) (λ_ _=>False) s₁) (λ_ _=>False) s)
  (n:Nat) (h:I n s) :
  codeAny (model prog w) A (.compLoop (.ListComp elt [⟨target,iter,ifs,0⟩] scope pos) 0 it acc env) R s:=by
 refine codeAny_loop rfl I (λn s hI=>?_) n h
 show wpAny _ A ((compTurn (.ListComp elt [⟨target,iter,ifs,0⟩] scope pos) 0 it acc env).onRaise (λx=>do noteFrame x env;theTreesLotGoes x)) _ _ s
 refine wpAny_noted ?_
 rw[compTurn_list]
 refine Ya (wpAny_standAt (Ya (YI (turn n s hI) (λr s₁ h₁=>?_) λ_ _ h'=>h'.elim)))
 cases r with
 |none=>exact Ye h₁
 |some v =>
  refine Ya (YI h₁ (λ_ s₁' h₁=>?_) λ_ _ h'=>h'.elim)
  refine Ya (YI h₁ (λ_ s₂ h₂=>Ya (YI h₂ (λok s₃ h₃=>?_) λ_ _ h'=>h'.elim)) λ_ _ h'=>h'.elim)
  cases ok with
  |false=>exact Ye ⟨rfl,h₃⟩
  |true =>
   exact Ya (Ya (YI h₃ (λx s₄ h₄=>Ya (YI h₄ (λ_ s₅ h₅=>Ye (Ye ⟨rfl,h₅⟩)) λ_ _ h'=>h'.elim)) λ_ _ h'=>h'.elim))
noncomputable def ZmQ (X:Cx) (ifs:List Expr) (t:TT):Prop :=
 ∀(pins:List (Addr×Obj)) (s:Shared) (σ:St) (H:Hp) (Q:Bool->Hp->Prop),Inv X pins σ H s->t σ H Q ->
  wpAny (model X.prog X.w) X.A (forIn ifs true λc r=>if r=true then do let ok <-isTrue c X.env (eval c X.env);pure (ForInStep.yield ok)else pure (ForInStep.yield r)) (TP X pins σ Q) X.xe s
noncomputable def tYes:TT:=λ_ H Q=>Q true H
theorem ZaE:ZmQ X [] tYes:=λpins s σ H Q I h=>wpAny_tests_nil ⟨H,I,h⟩
theorem Zhs {c:Expr}{t:TT} (h:PT X c t):ZmQ X [c] t:=λpins s σ H Q I hq=>wpAny_tests_one (h pins s σ H Q I hq)
noncomputable def Zck (L:List Nat) (σ σ':St):Prop:=σ'.length=σ.length/\∀k,k∉L->σ'[k]?=σ[k]?
noncomputable def ZiJ (g:TG) (L:List Nat):Prop:=∀v σ H (Q Q':St->Hp->Prop),(∀σ' H',Zck L σ σ'->Q σ' H'->Q' σ' H')->g v σ H Q->g v σ H Q'
noncomputable def Zjm (g:TGs) (L:List Nat):Prop:=∀v σ H (Q Q':St->Hp->Prop),(∀σ' H',Zck L σ σ'->Q σ' H'->Q' σ' H')->g v σ H Q->g v σ H Q'
theorem Zck.refl {L:List Nat}{σ:St}:Zck L σ σ:=⟨rfl,λ_ _=>rfl⟩
theorem Zck.trans {L L':List Nat}{a b c:St} (x:Zck L a b) (y:Zck L' b c):Zck (L++L') a c :=
 ⟨y.1.trans x.1,λk hk=>(y.2 k λz=>hk (Yq _ z)).trans (x.2 k λz=>hk (YN _ z))⟩
theorem ZQ {i:Nat}:ZiJ (gName i) [i]:=λv σ H Q Q' hq h=>hq _ _ ⟨by simp,λk hk=>by
 rw[List.getElem?_set_ne]
 intro z;subst z;exact hk (by simp)⟩ h
theorem Zkh:Zjm gNil []:=λv σ H Q Q' hq h=>⟨h.1,hq _ _ Zck.refl h.2⟩
theorem Zet {t:TG}{u:TGs}{L L':List Nat} (h1:ZiJ t L) (h2:Zjm u L'):Zjm (gCons t u) (L++L'):=λv σ H Q Q' hq h=>by
 obtain⟨x,r,e,h⟩:=h
 exact⟨x,r,e,h1 _ _ _ _ _ (fun σ' H' k1 q=>h2 _ _ _ _ _ (fun σ2 H2 k2 q2=>hq _ _ (k1.trans k2) q2) q) h⟩
theorem Zki {K:PySem.W.Frag}{n:Nat}{t:TGs}{L:List Nat} (h:Zjm t L):ZiJ (gTup K n t) L:=λv σ H Q Q' hq q=>by
 obtain⟨a,xs,e1,e2,e3,q⟩:=q
 exact⟨a,xs,e1,e2,e3,h _ _ _ _ _ hq q⟩
noncomputable def Zmf (wi:TI) (g:TG) (tt:TT) (te:TE) (js:List (Option Nat)):TE:=fun σ H Q=>wi σ H λJ H1=>∃W:Nat->Nat->List V->Hp->Prop,(∃m,W 0 m [] H1)/\∀i m acc H,W i m acc H ->
 (J.stop i H/\acc.length<=sizeLine/\∀p,H p=none->Q (.ref p) (upd H p (.lst acc))) \/
 (J.go i H/\acc.length<sizeLine/\∀x H',J.yld i H x H'->g x (iniC js σ) H' fun σ2 H2=>tt σ2 H2 λb H3=>if b=true then te σ2 H3 λv H4=>∃m',m'<m/\W (i+1) m' (acc++[v]) H4 else ∃m',m'<m/\W (i+1) m' acc H3)
theorem Zjn {C:Addr}{h:Heap}:Heap.SameBut C h h:=by
 first|exact Heap.SameBut.refl|exact⟨rfl,λ_ _=>rfl⟩
end
end L2
namespace L2
open PySem PySem.Spec PyProof.Rows PySem.W PySem.Builtin.ObjectAttr PySem.Builtin.Getset_descriptor
noncomputable def Zkj (x C:Addr) (h:Heap):Prop:=∃o,h.get? x=some o/\o.cls=.ref C
structure ExK (K:Frag) (C:Addr):Prop where
 dk:hasDictIn K C=true
 ga:findIn K (.ref C) "__getattribute__"=some (some (.builtin "BaseException.__getattribute__"))
 gt:findIn K (.ref C) "__getattr__"=some none
 cl:findIn K (.ref C) "__class__"=some (some (.builtin "object.__class__"))
 gg:specialIn K (.builtin "object.__class__") "__get__"=some (some (.builtin "getset_descriptor.__get__"))
 tk:takesIn K (.builtin "object.__class__")=some true
 mo:mroIn K C (.type "object")=some true
 mb:mroIn K C (.type "BaseException")=some true
section
variable {K:Frag}{x C:Addr}
theorem Zkj.type {M:Model}{h:Heap} (I:Zkj x C h):Looks M h (typeOf (.ref x)) (.ref C):=by
 obtain⟨o,e,c⟩:=I
 exact c▸(Looks.ld e).andThen .now
theorem Zn8 {M:Model}{h:Heap} (X:K.In h) (Z:ExK K C):Looks M h (find (.ref x) (.ref C) "__class__") (.bind (.builtin "getset_descriptor.__get__") (.builtin "object.__class__")):=by
 have L3:=looks_takesIn (M:=M) X Z.tk
 exact(looks_findIn (M:=M) X Z.cl).andThen ((looks_specialIn X Z.gg).andThen
  ((show Looks M h (dataDescriptor? (some (.builtin "object.__class__")) (some (.builtin "getset_descriptor.__get__"))) (some (.builtin "getset_descriptor.__get__",.builtin "object.__class__"))from L3.andThen .now).andThen (Looks.tag .now)))
theorem Zqn {prog:Program}{w:World}{A:Around}{R:Result->Shared->Prop}{s:Shared}{tp:Value} (X:K.In s.heap) (I:Zkj x C s.heap) (Z:ExK K C) (hR:R (.ok (.ret (.ref C))) s) :
  codeAny (model prog w) A (.call (.builtin "getset_descriptor.__get__") ⟨[.builtin "object.__class__",.ref x,tp],[]⟩) R s:=by
 obtain⟨hp,gn,dw,tk,os⟩:=s
 have L0:=I.type (M:=model prog w)
 have L1:=looks_mroIn (M:=model prog w) X Z.mo
 refine codeAny_call_builtin KF.slot_gs.plain KF.entry_gs (KF.slot_gs.check _ _ _ _ _ _ _ _ KF.type_class (KF.args_gs _ _ _) ?_)
 unfold Builtin.«getset_descriptor.__get__» descrGet;rw[dga_obj];refine Ya (Ye ?_)
 unfold descrGetter descrCheckInstance descrNameAndClass isInstance;simp only[KF.owner_class]
 repeat lk
 refine⟨Code.quiet_builtin _ (by decide +kernel),codeAny_builtin KF.entry_class ?_⟩;unfold Builtin.«object.__class__» shownTypeOf
 repeat lk
 exact hR
theorem ZmR {prog:Program}{w:World}{A:Around}{E:Value->Shared->Prop}{s:Shared}{tk:Tok}{Q:Fin->Shared->Prop} (X:K.In s.heap) (I:Zkj x C s.heap) (Z:ExK K C) (hQ:Q (.done (.ret (.ref C))) s) :
  wpAny (model prog w) A (Builtin.«object.__getattribute__» ⟨[.ref x,.str "__class__" tk],[]⟩) Q E s:=by
 obtain⟨hp,gn,dw,t,os⟩:=s
 have L0:=I.type (M:=model prog w)
 have L2:=Zn8 (M:=model prog w) (x:=x) X Z
 unfold Builtin.«object.__getattribute__»
 refine Ya (Ye (Ya (Ye (Ya (L0.at (Ya (L2.at ?_)))))))
 show wpAny _ _ (holding _ (call _ _) >>= ret) _ _ _
 exact Ya (wpAny_holding (wpAny_call (Zqn (s:=⟨hp,gn,dw,t,os⟩) X I Z (Ye hQ))))
theorem ZmS {M:Model}{A:Around}{E:Value->Shared->Prop}{s:Shared}{nameV:Value}{Q:Unit->Shared->Prop} (X:K.In s.heap) (I:Zkj x C s.heap) (Z:ExK K C) (hq:Q () s) :
  wpAny M A (checkBuiltinCall "BaseException.__getattribute__" ⟨[.ref x,nameV],[]⟩) Q E s:=by
 obtain⟨hp,gn,dw,t,os⟩:=s
 have hk:builtinKind "BaseException.__getattribute__"=some .slot:=by decide +kernel
 have hsplit:splitId "BaseException.__getattribute__"=some ("BaseException","__getattribute__"):=by decide +kernel
 have L0:=I.type (M:=M)
 have L1:=looks_mroIn (M:=M) X Z.mb
 have ha:=F.args_bexc_ga (.ref x) nameV
 simp only[checkBuiltinCall,hk,hsplit]
 refine Ya ?_
 unfold isInstance
 refine Ya (L0.at (L1.at ?_))
 repeat (first|assumption|wp_step)
theorem ZmT {prog:Program}{w:World}{A:Around}{E:Value->Shared->Prop}{s:Shared}{Q:Option Value->Shared->Prop} (X:K.In s.heap) (I:Zkj x C s.heap) (Z:ExK K C) (hQ:Q (some (.ref C)) {s with toks:=s.toks+1}) :
  wpAny (model prog w) A (getAttr? (.ref x) "__class__") Q E s:=by
 obtain⟨hp,gn,dw,tk,os⟩:=s
 have L0:=I.type (M:=model prog w)
 have L1:=looks_findIn (M:=model prog w) X Z.ga
 have L3:=looks_findIn (M:=model prog w) X Z.gt
 have hb:=(F.attrBase_ValueError.ga).bind (.ref x)
 unfold getAttr? getAttrBy? getAttrBy;refine Ya (wpAny_mkText (Ya (wpAny_attempt (wpAny_holding (Ya (L0.at (Ya (L1.at ?_))))))))
 show wpAny _ _ (getAttrByItsOwn _ _ _ _ _ _) _ _ _
 unfold getAttrByItsOwn hookBefore
 refine Ya (L3.at ?_)
 refine Ya (wpAny_attempt (wpAny_holding ?_))
 unfold callGetattribute
 show wpAny _ _ (boundAndCalled _ _ _) _ _ _
 unfold boundAndCalled
 rw[hb]
 refine Ya (Ye ?_)
 refine wpAny_call ?_
 refine codeAny_call_builtin F.attrBase_ValueError.ga.plain F.entry_bexc_ga (ZmS (s:=⟨hp,gn,dw,tk+1,os⟩) X I Z (ZmR (s:=⟨hp,gn,dw,tk+1,os⟩) X I Z ?_))
 exact handed_on rfl (Ye hQ)
theorem Zqo (Z:ExK K C):KitX K (.ref x) (.ref C) (Zkj x C) where
 ty:=λ_ _ _ I=>I.type
 it:=λ_ _ X _=>by
  obtain⟨cdD,hcD,_⟩:=any_some Z.dk
  unfold clsIn at hcD
  split at hcD
  ·rename_i c' d' cd' sl' ho
   intro A' Q' E' s' k q
   unfold isType loadHead;exact Ya (wpAny_loadPart (k _ _ (X _ _ ho)) (Ye q))
  ·cases hcD
 ne:=λh tp dd its n sl X htp=>by
  obtain⟨cdD,hcD,_⟩:=any_some Z.dk
  refine Bool.eq_false_iff.mpr λq=>?_
  have e:C=tp:=Value.ref.inj (beq_iff_eq.mp q);subst e
  unfold clsIn at hcD
  split at hcD
  ·rename_i c' d' cd' sl' ho
   have z:=(X _ _ ho).symm.trans htp;cases z
  ·cases hcD
 ca:=λX I k=>ZmT X I Z k
end
noncomputable def ExcO (e C:Addr):HO:=.ext (Zkj e C)
noncomputable def tyIs (K:Frag) (H:Hp) (x:V) (c:Value) (b:Bool):Prop :=
 (∃t,TyOf K H x t/\kitOne K t c=some b)\/∃e C,x=.ref e/\H e=some (ExcO e C)/\ExK K C/\kitOne K (.ref C) c=some b
noncomputable def cOf:V->Option Value
 |.ref a=>some (.ref a)
 |.ty n=>some (.type n)
 |_=>none
section
variable {X:Cx}
noncomputable def rIsi (K:Frag):List V->Hp->VK->Prop:=λxs H Q=>∃x v c b,xs=[x,v]/\cOf v=some c/\tyIs K H x c b/\Q (.bl b) H
theorem Zn9:Zbl X (.builtin "isinstance") (rIsi X.K):=by
 intro pins s σ H xs us Q I r h
 obtain⟨x,v,c,b,rfl,hc,ht,q⟩:=h
 obtain⟨u,u2,rfl,ru,ru2⟩:=r.two
 have e2:u2=c:=by
  cases v with
  |ref a=>have:=(show u2=Value.ref a from ru2);cases hc;exact this
  |ty n=>have:=(show u2=Value.type n from ru2);cases hc;exact this
  |_=>cases hc
 subst e2
 have fin:∀tk,EP X pins σ Q (.bool b) {s with toks:=tk}:=λtk=>⟨.bl b,H,I.tok tk,rfl,q⟩
 rcases ht with⟨t,ty,e⟩|⟨e,C,rfl,hH,Z,e1⟩
 ·exact ZmL I ru ty e fin
 ·cases(show u=Value.ref e from ru)
  obtain⟨p,_,_⟩:=(show ZW X.prog X.w H s.heap e (ExcO e C)from I.hok e _ hH)
  exact kia_one (Zqo Z) I.kIn p e1 (λz=>nomatch z) fin
end
end L2
namespace L2
open PySem PySem.Spec PyProof.Rows
structure Fly (P:Program) (w:World) (outer:List Env) (H:Hp) (s:Shared) (H':Hp) (B:Heap) (e:Addr) (C a0:Value) (s':Shared):Prop where
 os:s'.os=s.os
 bare:AllBare s'.gens
 fly:Heap.FlyingW B outer e C a0 s'.heap
 hok:HOk P w H' B
 keep:∀b o,s.heap.get? b=some o->H b=none->b∉frs outer->B.get? b=some o
 slot:∀b o,s.heap.get? b=some o->b∈frs outer->(∀vs,o.data≠.fields vs)->∃sl,s'.heap.get? b=some {o with slots:=sl}
 free:∀b o,s.heap.get? b=some o->H b=none->H' b=none
 there:∀b o,s.heap.get? b=some o->b∉frs outer->∃o',B.get? b=some o'
 tups:∀b xs,H b=some (.tup xs)->H' b=some (.tup xs)
 frzs:∀b o u,H b=some (.frz o u)->H' b=some (.frz o u)
 tbls:∀b ps,H b=some (.tbl ps)->∃more,H' b=some (.tbl (ps++more))
noncomputable def CXE (P:Program) (w:World):CXT:=λouter H s E ev s'=>∃e C a0 H' B,ev=.ref e/\Fly P w outer H s H' B e C a0 s'/\E C none H'
theorem Zn {P:Program}{w:World}{X:Cx}:Passes (CXE P w) X E0:=λ_ _ _ _ _ _ _ ⟨_,_,_,_,_,_,_,z⟩=>z.elim
section
variable {P:Program}{w:World}{K:PySem.W.Frag}{mg:Str->Option Value}{base:Heap}{N:List Str}{qual:Str}{scope:Scope}{f:Addr}{cd:Value}{A:Around}{outer:List Env}{s:Shared}{H:Hp}{E:XK}
theorem Zjo {pins:List (Addr×Obj)}{σ:St}{H1:Hp}{s1:Shared}{h':Heap}{e:Addr}{C:Value}{vs:List Value} (I:Inv (Zfo (CXE P w) P w K mg base N qual scope f cd A outer s H E) pins σ H1 s1)
  (hx:Heap.MadeExcOf s1.heap h' e C vs) (hE:E C none H1):(Zfo (CXE P w) P w K mg base N qual scope f cd A outer s H E).xe (.ref e) {s1 with heap:=h'}:=by
 let env:=envOfC qual scope s.heap.objs.size f cd
 let B:=PySem.W.hideAll s1.heap (frs (env::outer))
 have hin:∀en∈(env::outer),∀b,en.frame=some b->b∈frs (env::outer):=λen he b hb=>List.mem_filterMap.mpr ⟨en,he,hb⟩
 have st:s1.heap.FunFrames base (env::outer):=I.stack
 have loc:∀b,b∈frs (env::outer)->b=s.heap.objs.size\/b∈frs outer:=λb hb=>Yo.mp (I.ZfX b hb)
 have old:∀b o,s.heap.get? b=some o->b∉frs outer->b∉frs (env::outer):=λb o q nb hb=>by
  rcases loc b hb with z|z
  ·exact absurd (Yj q) (by rw[z];exact YB _)
  ·exact nb z
 have un:Un (frs outer) [] H H1 s.heap s1.heap:=I.base
 have hokB:HOk P w H1 B:=λa o q=>by
  have nf:∀b o,H1 b=some o->b∉frs (env::outer):=λb o z hb=>by
   have:=I.Zg8 b hb
   rw[this]at z;cases z
  refine(I.hok a o q).Zhg (λb u hb z=>?_) (λ_ z=>z) (λ_ _ z=>z) λ_ _ _ z=>z
  rcases hb with hb|hb
  ·rw[hb]at z⊢;exact PySem.W.hideAll_get _ z (nf a o q)
  ·exact PySem.W.hideAll_get _ z (nf b _ hb)
 refine wpAny_leaves_madeW (base:=B) (h:=s1.heap) (env:=env) (outer:=outer) (L:=s.heap.objs.size) I.ok.frames rfl (λb o q=>PySem.W.of_hideAll _ q) (PySem.W.funFrames_hide st hin) hx λh2 t x1 x2 x3 x4=>?_
 refine⟨e,C,.ref t,H1,B,rfl,⟨I.os,I.bare,x1,hokB,λb o q n nb=>?_,λb o q hb hd=>?_,λb o q n=>un.free b o q n (by simp),λb o q nb=>?_,un.tups,un.frzs,un.tbls⟩,hE⟩
 ·exact PySem.W.hideAll_get _ (un.keep b o q n nb (by simp)) (old b o q nb)
 ·obtain⟨sl,z⟩:=un.slot b o q (I.ok.frf b hb) hb (by simp)
  obtain⟨sl2,z2⟩:=x4 b _ (hx.keeps _ _ z) hd
  exact⟨sl2,z2⟩
 ·obtain⟨o',z⟩:=un.there b o q (by simp)
  exact⟨o',PySem.W.hideAll_get _ z (old b o q nb)⟩
theorem Za3:Passes (CXE P w) (Zfo (CXE P w) P w K mg base N qual scope f cd A outer s H E) E:=by
 intro pins σ H1 s1 ev s2 I h
 obtain⟨e,C,a0,H',B,rfl,F,hE⟩:=h
 let env:=envOfC qual scope s.heap.objs.size f cd
 have un:Un (frs outer) [] H H1 s.heap s1.heap:=I.base
 have loc:∀b,b∈frs (env::outer)->b=s.heap.objs.size\/b∈frs outer:=λb hb=>Yo.mp (I.ZfX b hb)
 have old:∀b o,s.heap.get? b=some o->b∉frs outer->b∉frs (env::outer):=λb o q nb hb=>by
  rcases loc b hb with z|z
  ·exact absurd (Yj q) (by rw[z];exact YB _)
  ·exact nb z
 refine wpAny_leaves_onW (env:=env) (outer:=outer) (L:=s.heap.objs.size) I.ok.frames rfl F.fly λh2 x1 x2=>?_
 refine⟨e,C,a0,H',B,rfl,⟨F.os.trans I.os,F.bare,x1,F.hok,λb o q n nb=>F.keep b o (un.keep b o q n nb (by simp)) (un.free b o q n (by simp)) (old b o q nb),λb o q hb hd=>?_,λb o q n=>?_,λb o q nb=>?_,λb xs z=>F.tups b xs (un.tups b xs z),λb o u z=>F.frzs b o u (un.frzs b o u z),λb ps z=>?_⟩,hE⟩
 ·obtain⟨sl,z⟩:=un.slot b o q (I.ok.frf b hb) hb (by simp)
  obtain⟨en,he,hf⟩:=List.mem_filterMap.mp hb
  obtain⟨sl2,z2⟩:=F.slot b _ z (List.mem_filterMap.mpr ⟨en,.tail _ he,hf⟩) hd
  obtain⟨sl3,z3⟩:=x2 b _ z2 hd
  exact⟨sl3,z3⟩
 ·by_cases hb:b∈frs outer
  ·have h1:H1 b=none:=un.free b o q n (by simp)
   obtain⟨sl,z⟩:=un.slot b o q n hb (by simp)
   exact F.free b _ z h1
  ·exact F.free b o (un.keep b o q n hb (by simp)) (un.free b o q n (by simp))
 ·obtain⟨o',z⟩:=un.there b o q (by simp)
  exact F.there b o' z (old b o q nb)
 ·obtain⟨m1,z1⟩:=un.tbls b ps z
  obtain⟨m2,z2⟩:=F.tbls b _ z1
  exact⟨m1++m2,by rw[<-Array.append_assoc];exact z2⟩
end
abbrev bmV:List Value:=[.type "ValueError",.type "Exception",.type "BaseException",.type "object"]
abbrev newV:String:="ValueError.__new__"
theorem own_mk {K:PySem.W.Frag}{h:Heap}{mg:Str->Option Value}{x:Str}{C:Addr} (X:K.In h) (hm:mg x=some (.ref C)) (q:PySem.W.excIn K C bmV newV=true):OwnCls x C bmV newV mg h:=by
 refine⟨hm,?_⟩
 unfold PySem.W.excIn at q;split at q
 ·rename_i dd cd sl ho
  split at q
  ·rename_i C' bm k0 k1 k2 k3 n k5 hmm hs
   simp only[Bool.and_eq_true,beq_iff_eq,Bool.not_eq_true']at q;obtain⟨⟨⟨⟨⟨rfl,rfl⟩,hdel⟩,ht⟩,hok⟩,hni⟩:=q
   obtain⟨nm,bs,mro,ns,qn,hd,sn,sub,ab,col,del⟩:=cd;dsimp only at hmm hdel hok hni;subst hmm hdel
   have hsl:sl=#[k0,k1,k2,k3,some (.builtin newV),k5]:=by obtain⟨l⟩:=sl;simp only at hs;rw[hs]
   subst hsl;exact⟨bm,ns,nm,qn,bs,hd,sn,sub,ab,col,dd,k0,k1,k2,k3,k5,_,X _ _ ho,.of_isNs (PySem.W.isNs_of_in X hok),PySem.W.nsMap_none_of_in X hok hni,PySem.W.tail_of_in X ht⟩
  ·cases q
 ·cases q
section
variable {X:Cx}
noncomputable def tRaise (C:Addr) (E:XK) (t:TA):TS:=λ_ σ H=>t σ H λvs H1=>vs.length<=sizeLine/\E (.ref C) none H1
theorem Zbo {x:Str}{C:Addr}{np cpos pos:Pos}{e0:Expr}{es:List Expr}{t:TA}{E:XK} (hc:X.calm=true) (hg:Gl X x) (hm:X.mg x=some (.ref C)) (q:PySem.W.excIn X.K C bmV newV=true) (ha:PA X (e0::es) t)
  (hx:∀pins σ H s h' e vs,Inv X pins σ H s->Heap.MadeExcOf s.heap h' e (.ref C) vs->E (.ref C) none H->X.xe (.ref e) {s with heap:=h'})
  (he:starEach (e0::es) X.env=(false,eval e0 X.env)::starEach es X.env:=by rfl) (hpl:(backTo cpos (starEach es X.env)).any (·.1)=false:=by rfl) (hd:(x==("__debug__":Str))=false:=by decide) :
  PS X (.Raise (some (.Call (.Name x np) (e0::es) [] cpos)) none pos) (tRaise C E t):=by
 intro pins s σ H D I h
 obtain⟨tl,Nn,nm,qn,bs,hdct,sn,sub,ab,col,dd,k0,k1,k2,k3,k5,mN,hC,hN,hni,T⟩:=(own_mk (x:=x) I.mod.kin hm q).obj
 refine wpAny_Raise_call_subT (C:=C) (nm:=nm) (q:=qn) (N:=Nn) (bs:=bs) (bm:=tl) (hdct:=hdct) (sn:=sn) (sub:=sub) (ab:=ab) (col:=col) (dd:=dd) (k0:=k0) (k1:=k1) (k2:=k2) (k3:=k3) (k5:=k5)
  PySem.F.excBase_ValueError (mN:=mN) (T.hasType PySem.F.excBase_ValueError.hasBase) (I.ok.hd hc) (by rw[he];show(false||(backTo cpos (starEach es X.env)).any (·.1))=false;rw[hpl];rfl) hni (Zg9 I hg hm ⟨rfl,?_⟩ hd)
 have h2:=ha cpos pins s σ H _ I h
 rw[he]at h2⊢
 exact Calls.evalArgs_plain (thn h2 λus s2 ⟨vs,H2,I2,r,z,q2⟩=>⟨rfl,by rw[<-r.length];exact z,I2.bk _ _ hC,hN.keeps I2.bk,T.keeps I2.bk,λh' e hm'=>hx pins σ H2 s2 h' e us I2 hm' q2⟩)
end
section
variable {P:Program}{w:World}{K:PySem.W.Frag}{mg:Str->Option Value}{base:Heap}
theorem Fun.okX {x qual:Str}{st:Stmt}{f:Addr}{fd:FuncData}{N ps:List Str}{k:Nat}{sp:Sp} (F:Fun K x qual st f fd) (S:FnScope N ps (defScope st)) (len:∀vs H Q E,sp vs H Q E->vs.length=ps.length)
  (hbody:∀(cdv:Value) (A:Around) (outer:List Env) (s:Shared) (H:Hp) (vs:List V) (Q:VK) (E:XK),Room k (A.deeper (envOfC qual (defScope st) s.heap.objs.size f cdv))->sp vs H Q E ->
   ∃t,PSs (Zfo (CXE P w) P w K mg base N qual (defScope st) f cdv A outer s H E) (defBody st) t/\t {nx:=λ_ H'=>Q .non H',rt:=Q} (start N vs) H):FnOk P w K mg base (CXE P w) (k+1) f fd ps sp:=by
 obtain⟨oc,od,kV,doc,pm,an,cdv,ct,osl,rfl,lk,hcd⟩:=F.ex
 exact fn_of lk hcd S len λA outer s H vs Q E hr hsp=>hbody cdv A outer s H vs Q E hr hsp
end
end L2
namespace L2
open PySem PySem.Spec PyProof.Rows PySem.W
theorem Zfp:∀{ns:List Int}{us:List Value},Vals (ns.map V.int) us->∃xs:Array (Int×Tok),us.toArray=intItems xs/\xs.toList.map (·.1)=ns
 |[],_,.nil=>⟨#[],by simp[intItems],rfl⟩
 |n::ns,_,.cons (b:=u) r t=>by
  obtain⟨tk,rfl⟩:=(show ∃t,u=Value.int n t from r)
  obtain⟨xs,e1,e2⟩:=Zfp t
  refine⟨#[(n,tk)]++xs,?_,by simp[e2]⟩
  have:∀(l:List Value),(Value.int n tk::l).toArray=#[Value.int n tk]++l.toArray:=λl=>by simp
  rw[this,e1]
  simp[intItems]
section
variable {X:Cx}
theorem Zai:OpR X (binaryOp .Mult) (rI IntMulOk λi j=>.int (i*j)):=opI λ_ _ _ _ _ _ _ hc q=>mul_int q hc
noncomputable def rSum (K:Frag):List V->Hp->VK->Prop:=λxs H Q=>∃(p:Addr) (ns:List Int),xs=[.ref p]/\SqL K H p (ns.map V.int)/\Q (.int ns.sum) H
theorem Zfq (hc:X.calm=true):Zbl X (.builtin "sum") (rSum X.K):=by
 intro pins s σ H xs us Q I r h
 obtain⟨p,ns,rfl,hp,q⟩:=h
 obtain⟨u,rfl,ru⟩:=r.one
 cases(show u=Value.ref p from ru)
 obtain⟨its,rv,pl,hz⟩:=I.list hp
 obtain⟨ys,e1,e2⟩:=Zfp rv
 refine sum_intListG (xs:=ys) (I.ok.hd hc) (e1▸pl.isList) λh' tk t' k=>⟨.int ns.sum,H,I.kept k,⟨t',?_⟩,q⟩
 congr 1
 rw[preSum_eq,<-e2,List.take_of_length_le (by simp)]
noncomputable def PJ (X:Cx) (es:List (Sem Value)) (t:St->Hp->(Hp->Prop)->Prop):Prop :=
 ∀(out:Str) (pins:List (Addr×Obj)) (s:Shared) (σ:St) (H:Hp) (Q:Hp->Prop),out.length+2000*es.length<=100000->Inv X pins σ H s->t σ H Q ->
  wpAny (model X.prog X.w) X.A (joinParts out es) (λu s'=>∃y tk H',u=.str y tk/\Inv X pins σ H' s'/\Q H') X.xe s
theorem Zdv:PJ X [] (λ_ H Q=>Q H):=λout pins s σ H Q hl I h =>
 joinParts_nil ⟨out,_,H,rfl,I.tok _,h⟩ (by simp at hl;exact Yf hl (by decide))
theorem Zab {x:Str}{j:Nat}{pos:Pos}{es:List (Sem Value)}{t:St->Hp->(Hp->Prop)->Prop} (hx:x.length<=2000) (h:PJ X es t):PJ X (eval (.Constant (.str x) j pos) X.env::es) t:=by
 intro out pins s σ H Q hl I hq
 have hl':(out++x).length+2000*es.length<=100000:=by rw[PySem.strLen_append];simp at hl;omega
 refine joinParts_cons (Calls.Constant_str ⟨Yf (Yf (Nat.le_add_right _ _) hl') (by decide),?_⟩)
 exact h _ pins _ σ H Q hl' (I.tok _) hq
theorem ZmU {i:Int} (h0:0<=i) (h1:i<10 ^ 18):i.natAbs.log2<1920:=by
 by_cases hz:i.natAbs=0
 ·rw[hz];decide
 ·have h3:i.natAbs<2 ^ 60:=by
   have:(2:Nat) ^ 60=1152921504606846976:=by decide
   have h2:(10:Int) ^ 18=1000000000000000000:=by decide
   omega
  exact Yu ((Nat.log2_lt hz).mpr h3) (by decide)
theorem Zcl {e:Expr}{pos:Pos}{es:List (Sem Value)}{te:TE}{t:St->Hp->(Hp->Prop)->Prop} (he:PE X e te) (h:PJ X es t):PJ X (eval (.FormattedValue e (-1) none pos) X.env::es) (fun σ H Q=>te σ H λx H1=>∃i:Int,x=.int i/\(0<=i/\i<10 ^ 18)/\t σ H1 Q):=by
 intro out pins s σ H Q hl I hq
 refine joinParts_cons (FormattedValue_plain (thn (he pins s σ H _ I hq) λu s1 ⟨x,H1,I1,r1,i,ex,⟨h0,h1⟩,q⟩=>?_))
 subst ex
 obtain⟨tk,rfl⟩:=(show ∃t,u=Value.int i t from r1)
 refine wpAny_formatField_int (ZmU h0 h1) ?_
 have hx:(Str.ofString (toString i)).length<=18:=toString_length_le h0 (by decide) h1
 have hl':(out++Str.ofString (toString i)).length+2000*es.length<=100000:=by rw[PySem.strLen_append];simp at hl;omega
 refine⟨Yf (Yf (Nat.le_add_right _ _) hl') (by decide),?_⟩
 exact h _ pins _ σ H1 Q hl' (I1.tok _) q
theorem Zkk (env:Env):∀l:List Expr,(evalEach l env).length=l.length
 |[]=>rfl
 |e::r=>by
  have:evalEach (e::r) env=eval e env::evalEach r env:=rfl
  rw[this,Yn,Yn,Zkk env r]
theorem Za0 {e1 e2:Expr}{rest:List Expr}{pos:Pos}{t:St->Hp->(Hp->Prop)->Prop} (h:PJ X (eval e1 X.env::eval e2 X.env::evalEach rest X.env) t) (hn:rest.length<=20:=by decide) :
  PE X (.JoinedStr (e1::e2::rest) pos) (fun σ H Q=>t σ H λH1=>∀y,Q (.str y) H1):=by
 intro pins s σ H Q I hq
 have hle:=Zkk X.env rest
 refine JoinedStr_many (thn (h Str.empty pins s σ H _ (by simp only[Yn,hle];show 0+_<=_;omega) I hq) λu s' ⟨y,tk,H',e,I',q⟩=>?_)
 subst e
 exact⟨.str y,H',I',⟨tk,rfl⟩,q y⟩
end
noncomputable def clsAt (mg:Str->Option Value) (x:Str):Addr:=match mg x with
 |some (.ref C)=>C
 |_=>0
noncomputable def tokAt (mg:Str->Option Value) (x:Str):Tok:=match mg x with
 |some (.int _ t)=>t
 |_=>default
noncomputable def Callee (P:Program) (w:World) (K:Frag) (mg:Str->Option Value) (base:Heap) (x:Str) (k:Nat) (ps:List Str) (sp:Sp):Prop :=
 ∃f fd,mg x=some (.ref f)/\keepIn K (.ref f)=true/\Binds K fd ps []/\FnOk P w K mg base (CXE P w) k f fd ps sp
section
variable {X:Cx}
theorem Z3 {st:Stmt}{t:TS} (h:PS X.nox st t):PS X st t:=λpins s σ H D I hw =>
 YI (h pins s σ H D (I.Zim _) hw) (λ_ _ q=>q.Zdq) λ_ _ z=>False.elim z
theorem Zj {x:Str}{k:Nat}{ps:List Str}{sp:Sp}{E:XK}{e:Expr}{es:List Expr}{t:TA}{p pos:Pos} (C:Callee X.prog X.w X.K X.mg X.base x k ps sp) (hr:Room k X.A) (hg:Gl X x) (hx:Passes (CXE X.prog X.w) X E)
  (ha:PA X (e::es) t) (hdb:(x==("__debug__":Str))=false:=by decide) (he:starEach (e::es) X.env=(false,eval e X.env)::starEach es X.env:=by rfl) (hpl:(backTo pos (starEach es X.env)).any (·.1)=false:=by rfl) :
  PE X (.Call (.Name x p) (e::es) [] pos) (tCall sp [] E t):=by
 obtain⟨f,fd,hm,hk,hb,F⟩:=C
 exact Zqj F hr hg hm hk hb .nil hx ha hdb he hpl
theorem Zb1 {P:Program}{w:World}{K:Frag}{mg:Str->Option Value}{base:Heap}{N:List Str}{qual:Str}{scope:Scope}{f:Addr}{cd:Value}{A:Around}{outer:List Env}{s0:Shared}{H0:Hp}{E:XK}{C:Addr} :
  ∀pins σ H s h' e vs,Inv (Zfo (CXE P w) P w K mg base N qual scope f cd A outer s0 H0 E) pins σ H s->Heap.MadeExcOf s.heap h' e (.ref C) vs->E (.ref C) none H->(Zfo (CXE P w) P w K mg base N qual scope f cd A outer s0 H0 E).xe (.ref e) {s with heap:=h'} :=
 λ_ _ _ _ _ _ _ I hx hE=>Zjo I hx hE
end
theorem Zht:bootBuiltins "max"=some (.builtin "max"):=by decide +kernel
theorem Zhu:bootBuiltins "min"=some (.builtin "min"):=by decide +kernel
theorem Zjp:bootBuiltins "sum"=some (.builtin "sum"):=by decide +kernel
theorem ZeH:bootBuiltins "isinstance"=some (.builtin "isinstance"):=by decide +kernel
theorem ZaQ:bootBuiltins "tuple"=some (.type "tuple"):=by decide +kernel
theorem Zoa:bootBuiltins "int"=some (.type "int"):=by decide +kernel
section
variable {X:Cx}{pins:List (Addr×Obj)}{σ:St}{H:Hp}{s:Shared}{h':Heap}
theorem Inv.Zjq {t':Nat}{fp:List Addr} (I:Inv X pins σ H s) (k:∀b o,b∉fp->s.heap.get? b=some o->h'.get? b=some o) (hf:∀b∈fp,FpOk X pins H b):Inv X pins σ H {s with heap:=h',toks:=t'}:=by
 have nit:∀b u,H b=some u->b∉fp:=λb u e z=>by rw[(hf b z).1]at e;cases e
 refine I.step (g':=s.gens) (d':=s.drawn) (ch:=fp) (λb hb=>?_) (λb o _ _ hc e _=>k b o hc e) (λb o _ _ hc e _=>⟨o.slots,k b o hc e⟩) (λ_ _ _ _ n=>n)
  (λb o hc e=>⟨o,k b o hc e⟩) (λ_ _ e=>e) (λ_ _ _ e=>e) (λb ps e=>⟨#[],by rw[e];simp⟩) (λm hm=>?_) (λb u e=>?_) I.bare
 ·obtain⟨_,f1,_,f3,f4,f5⟩:=hf b hb
  exact⟨f3,f1,f4,f5⟩
 ·obtain⟨o,es,ep,ho,r⟩:=hm
  exact⟨o,es,ep,k _ o (λz=>(hf _ z).2.1 rfl) ho,r⟩
 ·refine(I.hok b u e).Zhg (λc v hc q=>k c v ?_ q) (λ_ q=>q) (λ_ _ q=>q) λ_ _ _ q=>q
  rcases hc with z|z
  ·rw[z];exact nit b u e
  ·exact nit c _ z
end
theorem cxK {CX:CXT}{P:Program}{w:World}{K:Frag}{mg:Str->Option Value}{base:Heap}{N:List Str}{qual:Str}{scope:Scope}{f:Addr}{cd:Value}{A:Around}{outer:List Env}{s:Shared}{H:Hp}{E:XK} :
  (Zfo CX P w K mg base N qual scope f cd A outer s H E).K=K:=rfl
theorem Zf.upd {H H1:Hp}{p:Addr}{o:HO} (h:H p=none) (e:Zf H H1):Zf H (upd H1 p o):=λb u z=>by
 rw[Zh (Zo z h)];exact e b u z
theorem Zf.ZJ {H H1:Hp}{p:Addr}{o:HO} (e:Zf H H1) (h:H1 p=none):Zf H (L2.upd H1 p o):=e.upd (e.free h)
theorem Zmg {X:Cx}{K:Frag}{es:List Expr}{pos:Pos}{k:Nat}{t:TGs}{n:Nat} (hK:X.K=K) (hc:X.calm=true) (h:PGs X es t)
  (hn:(assignEach es X.env).length=n:=by rfl) (hst:(assignEach es X.env).findIdx? (·.1)=none:=by rfl):PG X (.Tuple es k pos) (gTup K n t):=hK▸ZcH hc h hn hst
noncomputable def ZiK (J:It) (g:TG) (tb:TS) (D:Ends) (σ:St) (H1:Hp):Prop:=∃W:Nat->Nat->St->Hp->Prop,(∃m,W 0 m σ H1)/\∀i m σ H,W i m σ H ->
 (J.stop i H/\D.nx σ H)\/(J.go i H/\∃N:St->Hp->Prop,(∀σ' H',N σ' H'->∃m',m'<m/\W (i+1) m' σ' H')/\∀x H',J.yld i H x H'->g x σ H' fun σ2 H2=>tb {D with nx:=N,ct:=N,bk:=D.nx} σ2 H2)
theorem Zmh {wi:TI}{g:TG}{tb:TS}{D:Ends}{σ:St}{H:Hp}:tFor wi g tb D σ H=wi σ H λJ H1=>ZiK J g tb D σ H1:=rfl
noncomputable def Zob (c:TT) (tb:TS) (D:Ends) (σ:St) (H:Hp):Prop:=Zle c tb D σ H
theorem ZiL {c:TT}{tb:TS}{D:Ends}{σ:St}{H:Hp}:Zle c tb D σ H=Zob c tb D σ H:=rfl
noncomputable def ZeI (J:It) (g:TG) (tt:TT) (te:TE) (σ0:St) (Q:VK) (H1:Hp):Prop:=∃W:Nat->Nat->List V->Hp->Prop,(∃m,W 0 m [] H1)/\∀i m acc H,W i m acc H ->
 (J.stop i H/\acc.length<=sizeLine/\∀p,H p=none->Q (.ref p) (upd H p (.lst acc))) \/
 (J.go i H/\acc.length<sizeLine/\∀x H',J.yld i H x H'->g x σ0 H' fun σ2 H2=>tt σ2 H2 λb H3=>if b=true then te σ2 H3 λv H4=>∃m',m'<m/\W (i+1) m' (acc++[v]) H4 else ∃m',m'<m/\W (i+1) m' acc H3)
theorem Zkl {wi:TI}{g:TG}{tt:TT}{te:TE}{js:List (Option Nat)}{σ:St}{H:Hp}{Q:VK}:Zmf wi g tt te js σ H Q=wi σ H λJ H1=>ZeI J g tt te (iniC js σ) Q H1:=rfl
noncomputable def CW (n:Nat) (vals:Nat->V) (H1:Hp) (i m:Nat) (acc:List V) (H:Hp):Prop:=m=n-i/\i<=n/\acc=(List.range i).map vals/\Zf H1 H
theorem CW.next {n:Nat}{vals:Nat->V}{H1 H:Hp}{i:Nat}{v:V} (hi:i<n) (hv:v=vals i) (s:Zf H1 H):∃m',m'<n-i/\CW n vals H1 (i+1) m' ((List.range i).map vals++[v]) H :=
 ⟨n-(i+1),by omega,rfl,hi,by rw[YJ,YM,hv];rfl,s⟩
theorem comp_map {J:It}{n:Nat}{H1:Hp}{g:TG}{tt:TT}{te:TE}{σ0:St}{Q:VK} (vals:Nat->V) (hn:n<sizeLine) (hgo:∀i H,Zf H1 H->i<n->J.go i H) (hstop:∀H,Zf H1 H->J.stop n H)
  (hb:∀i x H H',i<n->Zf H1 H->J.yld i H x H'->g x σ0 H' fun σ2 H2=>tt σ2 H2 λb H3=>if b=true then te σ2 H3 λv H4=>∃m',m'<n-i/\CW n vals H1 (i+1) m' ((List.range i).map vals++[v]) H4 else ∃m',m'<n-i/\CW n vals H1 (i+1) m' ((List.range i).map vals) H3)
  (hk:∀l H',Zf H1 H'->H' l=none->Q (.ref l) (upd H' l (.lst ((List.range n).map vals)))) :
  ZeI J g tt te σ0 Q H1:=by
 refine⟨CW n vals H1,⟨n,rfl,Ym _,rfl,Zf.refl _⟩,?_⟩
 rintro i m acc H ⟨rfl,hi,rfl,s⟩
 by_cases h:i<n
 ·refine .inr ⟨hgo i H s h,by simpa using Nat.lt_trans h hn,λx H' y=>hb i x H H' h s y⟩
 ·have e:i=n:=by omega
  subst e
  exact .inl ⟨hstop H s,by simpa using YH hn,λp hp=>hk p H s hp⟩
theorem Zhv {α:Type}{xs:List α}{i:Int}{j:Nat} (h:i=(j:Int)) (hj:j<xs.length):atI xs i=some xs[j]:=by
 subst h
 unfold atI ixN
 rw[Yc (by omega),Yc (by omega)]
 simp
theorem Zqp {α:Type}{xs:List α}{i:Int} (C:α->Prop) (h0:0<=i) (h1:i<xs.length) (h:∀x∈xs,C x):∃v,atI xs i=some v/\C v:=by
 obtain⟨j,rfl⟩:=Y6 h0
 have hj:j<xs.length:=by omega
 exact⟨xs[j],Zhv rfl hj,h _ (YF hj)⟩
theorem mul_r {a b:Int} (h1:-(2 ^ 64)<b) (h2:b<2 ^ 64):IntMulOk a b:=IntMulOk.of_right (intBits_le_64 h1 h2)
theorem Zoc {a b:Int} (h1:-(2 ^ 64)<a) (h2:a<2 ^ 64):IntMulOk a b:=IntMulOk.of_left (intBits_le_64 h1 h2)
theorem Zeu {a b:Int} (ha:Builtin.Int.intBits a<=2 ^ 20) (hb:Builtin.Int.intBits b<=2 ^ 20):IntMulOk a b:=IntMulOk.of_bits ha hb
theorem cp64:CPow 10 64:=by unfold CPow;decide
theorem cp18:CPow 10 18:=by unfold CPow;decide
theorem pm1:IntMulOk (10 ^ Int.toNat 64) (10 ^ Int.toNat 64):=Zeu (by decide +kernel) (by decide +kernel)
theorem pm2:IntMulOk (10 ^ Int.toNat 64*10 ^ Int.toNat 64) (10 ^ Int.toNat 64):=Zeu (by decide +kernel) (by decide +kernel)
theorem pm3:IntMulOk (10 ^ Int.toNat 64*10 ^ Int.toNat 64*10 ^ Int.toNat 64) (10 ^ Int.toNat 64):=Zeu (by decide +kernel) (by decide +kernel)
theorem pm4:(0:Int)<10 ^ Int.toNat 64*10 ^ Int.toNat 64*10 ^ Int.toNat 64*10 ^ Int.toNat 64:=by decide +kernel
theorem pm5:(0:Int)<2147483629:=by decide
theorem pm6:(0:Int)<2147483647:=by decide
theorem pm7:0+1+1<=sizeLine:=by decide
noncomputable def ZF (H:Hp) (p:Addr):Prop:=∃x y:Int,H p=some (.lst [.int x,.int y])/\0<=x/\0<=y/\y<2147483647
noncomputable def Exc (p:Addr) (H H':Hp):Prop:=∀b o,b≠p->H b=some o->H' b=some o
theorem Zf.exc {H H1 H2:Hp}{p:Addr} (s:Zf H H1) (h:H p=none) (e:Exc p H1 H2):Zf H H2:=λb o z=>e b o (Zo z h) (s b o z)
theorem Zf.Zgx {H H':Hp}{p:Addr} (s:Zf H H'):Exc p H H':=λb o _ z=>s b o z
theorem Exc.upd {H:Hp}{p:Addr}{o:HO}:Exc p H (L2.upd H p o):=λb u n z=>by rw[Zh n];exact z
theorem ZF.ne {H:Hp}{p q:Addr} (P:ZF H p) (h:H q=none):q≠p:=by
 obtain⟨x,y,e,_⟩:=P
 exact(Zo e h).symm
theorem ZF.same {H H':Hp}{p:Addr} (P:ZF H p) (s:Zf H H'):ZF H' p:=by
 obtain⟨x,y,e,r⟩:=P
 exact⟨x,y,s _ _ e,r⟩
theorem ZF.upd {H:Hp}{p q:Addr}{o:HO} (P:ZF H p) (h:H q=none):ZF (L2.upd H q o) p:=P.same ((Zf.refl H).upd h)
theorem range_getD {α β:Type} (xs:List α) (d:α) (f:α->β) (n:Nat) (h:n=xs.length):(List.range n).map (λj=>f (xs.getD j d))=xs.map f:=by
 subst h
 refine List.ext_getElem (by simp) λj h1 h2=>?_
 have hj:j<xs.length:=by simpa using h1
 simp[Yg,hj]
theorem Zam {K:Frag}{H:Hp}{p:Addr}{xs:List V} (h:H p=some (.lst xs)):tyV K "list" (.ref p) H:=.inl ⟨rfl,_,SqL.of h⟩
theorem Zmi {i j:Int}:Zji (.int i) (.int j)=true:=rfl
theorem Zmj {i j:Bool}:Zji (.bl i) (.bl j)=true:=rfl
theorem Zmk {i j:Str}:Zji (.str i) (.str j)=true:=rfl
theorem Zml:Zji .non .non=true:=rfl
theorem Zmm {i:Int}:Zji .non (.int i)=true:=rfl
theorem Zmn {i:Int}:Zji (.int i) .non=true:=rfl
section
variable {X:Cx}
noncomputable def rLen (K:Frag):List V->Hp->VK->Prop:=λxs H Q=>∃p ys,xs=[.ref p]/\(SqL K H p ys\/SqT K H p ys)/\Q (.int ys.length) H
theorem Zp {K:Frag} (hK:X.K=K):Zbl X (.builtin "len") (rLen K):=by subst hK;exact Zjl
noncomputable def rTof (K:Frag):List V->Hp->VK->Prop:=λxs H Q=>∃p ys,xs=[.ref p]/\((SqL K H p ys/\∀l,H l=none->Q (.ref l) (upd H l (.tup ys)))\/(SqT K H p ys/\Q (.ref p) H))
theorem ZbK {K:Frag} (hK:X.K=K):Zbl X (.type "tuple") (rTof K):=by subst hK;exact Zio
theorem ZmV {K:Frag} (hK:X.K=K):Zbl X (.builtin "isinstance") (rIsi K):=by subst hK;exact Zn9
end
theorem Zod {K:Frag}{t:Value}:kitOne K t t=some true:=by unfold kitOne;simp
theorem Zmo {a:Addr}{x:Value}:(cOf (.ref a)=some x)=(.ref a=x):=by simp[cOf]
theorem Zoe {n:String}{x:Value}:(cOf (.ty n)=some x)=(.type n=x):=by simp[cOf]
theorem Zof {α:Type}{f:Nat->Option α}{g:Nat->α}:∀{l:List Nat},(∀k∈l,f k=some (g k))->l.filterMap f=l.map g
 |[],_=>rfl
 |k::r,h=>by
  rw[List.filterMap_cons,h k (YQ ..),YA,Zof λj hj=>h j (YK _ hj)]
theorem Zog (its:List Value):slicePick its.toArray none none (some (-1))=its.reverse.toArray:=by
 have e:=PyProof.Rows.picked_rev its.length
 unfold Builtin.Str.strSliceIndices at e
 have e2:sliceRange ((its.length:Int)-1) (-1) (-1)=(List.range its.length).map λk=>its.length-1-k:=by
  rw[<-e];rfl
 unfold slicePick
 congr 1
 show((sliceRange ((its.toArray.size:Int)-1) (-1) (-1)).filterMap (its.toArray[·]?))=_
 rw[Yt,e2,List.filterMap_map,Zof (g:=λk=>(its.reverse[k]?).getD .none)]
 ·refine List.ext_getElem (by simp) λj h1 h2=>?_
  have hj:j<its.length:=by simpa using h1
  simp[hj]
 ·intro k hk
  have hk':k<its.length:=YC.mp hk
  have h3:its.length-1-k<its.length:=by omega
  simp[hk',h3]
section
variable {X:Cx}{e st:Expr}{te ts:TE}{pos p2:Pos}
noncomputable def tRev (K:Frag) (te ts:TE):TE:=fun σ H Q=>te σ H λx H1=>ts σ H1 λz H2=>∃a xs,x=.ref a/\z=.int (-1)/\SqL K H2 a xs/\∀p,H2 p=none->Q (.ref p) (upd H2 p (.lst xs.reverse))
theorem Vals.rev:∀{xs:List V}{us:List Value},Vals xs us->Vals xs.reverse us.reverse:=by
 intro xs us h
 induction h with
 |nil=>exact .nil
 |cons r _ ih=>rw[List.reverse_cons,List.reverse_cons];exact ih.append (.cons r .nil)
theorem Zev {K:Frag} (hK:X.K=K) (he:PE X e te) (hs:PE X st ts):PE X (.Subscript e (.Slice none none (some st) p2) pos) (tRev K te ts):=by
 subst hK
 intro pins s σ H Q I h
 refine Subscript_ (thn (he pins s σ H _ I h) λv s1 ⟨x,H1,I1,r1,q1⟩=>?_)
 refine wpAny_Slice ?_
 rw[evalPart_none]
 refine Ye ?_
 refine Ye ?_
 rw[evalPart_some]
 refine thn (hs pins s1 σ H1 _ I1 q1) λvs s2 ⟨z,H2,I2,r2,a,xs,e1,e2,hx,q⟩=>?_
 subst e1 e2
 obtain⟨tk,rfl⟩:=r2
 cases r1
 have I4:Inv X pins σ H2 {s2 with heap:=s2.heap.push {cls:=.type "slice",data:=.fields #[.none,.none,.int (-1) tk]}}:=I2.kept (t':=s2.toks) λb ob q=>Yk _ q
 show wpAny (model X.prog X.w) X.A (subscriptTail e (.Slice none none (some st) p2) (.ref a) (.ref s2.heap.objs.size)) (EP X pins σ Q) X.xe {s2 with heap:=s2.heap.push {cls:=.type "slice",data:=.fields #[.none,.none,.int (-1) tk]}}
 obtain⟨its,r,ht,hz⟩:=I4.list hx
 have hlen:=r.length
 refine tail_any (ops:=[.ref a,.ref s2.heap.objs.size]) ht.isList.typeIs slot_list_getitem.lookup ?_ (by with_unfolding_all rfl)
 refine wpAny_getItem_list_slice (s:={s2 with heap:=s2.heap.push {cls:=.type "slice",data:=.fields #[.none,.none,.int (-1) tk]}}) ht.isList (Heap.IsSliceOf.new ..) .none .none (.int (-1) tk) (by simp) ?_ (by rw[Yt]<;>omega)
 rw[Zog]
 refine⟨.ref _,_,I4.laid (t':=s2.toks) (o:=.lst xs.reverse) (λb ob q=>Yk _ q) (Yd _) ?_,rfl,q _ (I4.hok.fresh (Yd _))⟩
 exact⟨by rw[List.length_reverse];exact hz,_,0,r.rev,Yp _ rfl⟩
end
noncomputable def Zv (t:Int):List Int->List Int
 |[]=>[]
 |x::r=>(t+x)::Zv (t+x) r
theorem Zan (t:Int) (l r:List Int):Zv t (l++r)=Zv t l++Zv (t+l.sum) r:=by
 induction l generalizing t with
 |nil=>simp[Zv]
 |cons x l ih=>simp only[List.cons_append,Zv,ih,List.sum_cons,Int.add_assoc]
theorem ZaU (t:Int) (l:List Int):(Zv t l).length=l.length:=by
 induction l generalizing t with
 |nil=>rfl
 |cons x l ih=>simp[Zv,ih]
noncomputable def suf:List Int->List Int
 |[]=>[]
 |x::r=>(x+r.sum)::suf r
theorem Zhw (l:List Int):(suf l).length=l.length:=by
 induction l with
 |nil=>rfl
 |cons x l ih=>simp[suf,ih]
theorem Zqq (l:List Int):(Zv 0 l.reverse).reverse=suf l:=by
 induction l with
 |nil=>rfl
 |cons x l ih =>
  rw[List.reverse_cons,Zan,List.reverse_append,ih]
  simp[Zv,suf,Int.add_comm]
theorem ZmW (l:List Int) (z:Nat):suf (l++List.replicate z 0)=suf l++List.replicate z 0:=by
 induction l with
 |nil =>
  simp only[List.nil_append,suf]
  induction z with
  |zero=>rfl
  |succ z ih=>rw[List.replicate_succ,suf,ih];simp
 |cons x l ih=>simp[suf,ih]
noncomputable def grow (l:List Int):List Int:=l.sum::suf l
theorem Zb2 (l:List Int):(grow l).length=l.length+1:=by simp[grow,Zhw]
noncomputable def Zmp (m:Nat) (l:List Int):List Int:=(grow l).take (min m l.length+1)
theorem Zjr (m:Nat) (l:List Int):(Zmp m l).length=min m l.length+1:=by
 unfold Zmp;rw[YX,Zb2];omega
noncomputable def Zf3 (m:Nat):Nat->List Int
 |0=>[1]
 |t+1=>Zmp m (Zf3 m t)
theorem Zgy (m t:Nat):(Zf3 m t).length=min m t+1:=by
 induction t with
 |zero=>simp[Zf3]
 |succ t ih=>rw[Zf3,Zjr,ih];omega
noncomputable def Zkm (l:List Int):List Int:=(grow l).take l.length
noncomputable def ZeJ (m:Nat):Nat->List Int
 |0=>1::List.replicate m 0
 |t+1=>Zkm (ZeJ m t)
theorem Zoh (m t:Nat):ZeJ m t=Zf3 m t++List.replicate (m-min m t) 0:=by
 induction t with
 |zero=>simp[ZeJ,Zf3]
 |succ t ih =>
  rw[ZeJ,ih]
  have hl:=Zgy m t
  unfold Zkm
  have hg:grow (Zf3 m t++List.replicate (m-min m t) 0)=grow (Zf3 m t)++List.replicate (m-min m t) 0:=by
   unfold grow;rw[ZmW];simp
  rw[hg,YD,List.length_replicate,hl,List.take_append,Zb2,hl,Zf3,Zmp,hl,List.take_replicate]
  by_cases h:t<m
  ·have e1:min m t=t:=by omega
   have e2:min m (t+1)=t+1:=by omega
   rw[e1,e2]
   have e3:(grow (Zf3 m t)).take (t+1+(m-t))=grow (Zf3 m t):=List.take_of_length_le (by rw[Zb2,hl];omega)
   have e4:(grow (Zf3 m t)).take (t+1+1)=grow (Zf3 m t):=List.take_of_length_le (by rw[Zb2,hl];omega)
   rw[e3,e4]
   congr 2
   omega
  ·have e1:min m t=m:=by omega
   have e2:min m (t+1)=m:=by omega
   have e3:min m (m+1)=m:=by omega
   rw[e1,e2,e3]
   congr 1
   ·congr 1;omega
   ·congr 1;omega
theorem Zfr (m t:Nat):(ZeJ m t).length=m+1:=by
 rw[Zoh,YD,Zgy,List.length_replicate];omega
theorem Zmq (xs:List V):ZbW xs none (some 1)=xs.take 1:=by
 unfold ZbW HT.sIx
 cases xs<;>simp
theorem Zhx (xs:List V):ZbW xs none (some (-1))=xs.take (xs.length-1):=by
 unfold ZbW HT.sIx
 cases xs<;>simp
 omega
noncomputable def Rows (H:Hp) (l:Addr) (rs:List (List Int)):Prop:=∃as:List Addr,H l=some (.lst (as.map V.ref))/\l∉as/\as.length=rs.length/\∀i (h1:i<as.length) (h2:i<rs.length),H as[i]=some (.lst (rs[i].map V.int))
theorem Rows.same {H H':Hp}{l:Addr}{rs:List (List Int)} (R:Rows H l rs) (s:Zf H H'):Rows H' l rs:=by
 obtain⟨as,e,n,hl,h⟩:=R
 exact⟨as,s _ _ e,n,hl,λi h1 h2=>s _ _ (h i h1 h2)⟩
theorem Rows.at {K:Frag}{H:Hp}{l:Addr}{rs:List (List Int)} (R:Rows H l rs) {i:Nat} (h:i<rs.length):∃xs a,SqL K H l xs/\atI xs (i:Int)=some (.ref a)/\H a=some (.lst (rs[i].map V.int)):=by
 obtain⟨as,e,n,hl,hh⟩:=R
 have hi:i<as.length:=by omega
 refine⟨_,as[i],SqL.of e,?_,hh i hi h⟩
 rw[Zhv rfl (by simpa using hi)];simp
theorem Rows.push {H:Hp}{l p:Addr}{rs:List (List Int)}{r:List Int}{as:List Addr} (e:H l=some (.lst (as.map V.ref))) (n:l∉as) (hl:as.length=rs.length) (h:∀i (h1:i<as.length) (h2:i<rs.length),H as[i]=some (.lst (rs[i].map V.int)))
  (hp:H p=some (.lst (r.map V.int))) (np:p≠l):Rows (upd H l (.lst (as.map V.ref++[.ref p]))) l (rs++[r]):=by
 refine⟨as++[p],by rw[Zb];simp,?_,by simp[hl],λi h1 h2=>?_⟩
 ·simp only[Yz,Y3,not_or]
  exact⟨n,λz=>np z.symm⟩
 ·by_cases hi:i<as.length
  ·have e1:(as++[p])[i]=as[i]:=Y8 hi
   have e2:(rs++[r])[i]=rs[i]'(by omega):=Y8 (by omega)
   rw[e1,e2,Zh]
   ·exact h i hi (by omega)
   ·intro z;exact n (z▸YF hi)
  ·have e1:(as++[p])[i]=p:=by rw[Jb (by omega)];simp
   have e2:(rs++[r])[i]=r:=by rw[Jb (by omega)];simp
   rw[e1,e2,Zh np];exact hp
theorem ZmX {ns:List Int} (h:ns≠[]):(suf ns).take 1++(suf ns).take (ns.length-1)=Zkm ns:=by
 cases ns with
 |nil=>exact absurd rfl h
 |cons x r=>simp[Zkm,grow,suf]
inductive EqD (K:Frag) (H:Hp):Nat->V->V->Bool->Prop
 |flat {n:Nat}{x y:V} (fx:flatV x=true) (fy:flatV y=true):EqD K H n x y (eqV x y)
 |lst {n:Nat}{a b:Addr}{xs ys:List V} (e:Nat->Bool) (hx:SqL K H a xs) (hy:SqL K H b ys) (hl:xs.length=ys.length) (h:∀j x y,xs[j]?=some x->ys[j]?=some y->EqD K H n x y (e j)):EqD K H (n+1) (.ref a) (.ref b) ((List.range xs.length).all e)
 |len {n:Nat}{a b:Addr}{xs ys:List V} (hx:SqL K H a xs) (hy:SqL K H b ys) (hl:xs.length≠ys.length):EqD K H (n+1) (.ref a) (.ref b) false
 |tup {n:Nat}{a b:Addr}{xs ys:List V} (e:Nat->Bool) (hx:SqT K H a xs) (hy:SqT K H b ys) (h:∀j x y,xs[j]?=some x->ys[j]?=some y->EqD K H n x y (e j)):EqD K H (n+1) (.ref a) (.ref b) ((List.range (min xs.length ys.length)).all e&&xs.length==ys.length)
theorem Zoi {x:V} (h:flatV x=true):eqV x x=true:=by
 cases x<;>first
  |rfl
  |(simp[eqV];done)
  |cases h
section
variable {X:Cx}{pins:List (Addr×Obj)}{σ:St}{H:Hp}{s:Shared}
theorem Zkn (I:Inv X pins σ H s) {n:Nat}{x y:V}{b:Bool} (h:EqD X.K H n x y b):x=y->b=true:=by
 induction h with
 |flat fx fy=>rintro rfl;exact Zoi fx
 |lst e hx hy hl h ih =>
  intro z
  cases z
  have:=I.Zcy hx hy
  subst this
  refine List.all_eq_true.mpr λj hj=>?_
  have hj':=YC.mp hj
  exact ih j _ _ (Yh hj') (Yh hj') rfl
 |len hx hy hl =>
  intro z
  cases z
  have:=I.Zcy hx hy
  subst this
  exact absurd rfl hl
 |tup e hx hy h ih =>
  intro z
  cases z
  have:=I.ZfY hx hy
  subst this
  rw[Nat.min_self]
  have:(List.range _).all e=true:=List.all_eq_true.mpr λj hj=>by
   have hj':=YC.mp hj
   exact ih j _ _ (Yh hj') (Yh hj') rfl
  rw[this];simp
theorem Zjs (I:Inv X pins σ H s) {n:Nat}{x y:V}{b:Bool} (h:EqD X.K H n x y b):∀(A:Around) (u v:Value),A.units+n<cLine->RelV x u->RelV y v->SeqAt.EqAt A s u v b:=by
 induction h with
 |flat fx fy=>intro A u v _ ru rv;exact eqAt_V ru rv fx fy
 |@lst n a b xs ys e hx hy hl h ih =>
  intro A u v hu ru rv
  have hb:=Zkn I (.lst e hx hy hl h)
  cases ru
  cases rv
  by_cases hab:a=b
  ·subst hab
   rw[hb rfl];exact SeqAt.EqAt.same _
  ·obtain⟨is1,r1,p1,_⟩:=I.list hx
   obtain⟨is2,r2,p2,_⟩:=I.list hy
   have e1:=r1.length
   have e2:=r2.length
   have key:=SeqAt.RcAt.lists (A:=A) (s:=s) (e:=e) p1.isList p2.isList (by simp;omega) (by omega) λj h1 h2=>by
    have h1':j<xs.length:=by simpa[e1]using h1
    have h2':j<ys.length:=by simpa[e2]using h2
    obtain⟨u,hu1,ru⟩:=r1.get (Yh h1')
    obtain⟨v,hv1,rv⟩:=r2.get (Yh h2')
    have eu:is1.toArray[j]=u:=by simpa using(Yr.mp hu1).2
    have ev:is2.toArray[j]=v:=by simpa using(Yr.mp hv1).2
    rw[eu,ev]
    exact ih j _ _ (Yh h1') (Yh h2') A.in1 u v (by show A.units+1+n<cLine;omega) ru rv
   have e3:is1.toArray.size=xs.length:=by simp[e1]
   rw[e3]at key
   exact SeqAt.EqAt.of_refs hab key
 |@len n a b xs ys hx hy hl =>
  intro A u v hu ru rv
  cases ru
  cases rv
  have hab:a≠b:=λz=>by subst z;exact hl (congrArg List.length (I.Zcy hx hy))
  obtain⟨is1,r1,p1,_⟩:=I.list hx
  obtain⟨is2,r2,p2,_⟩:=I.list hy
  have e1:=r1.length
  have e2:=r2.length
  exact SeqAt.EqAt.of_refs hab (SeqAt.RcAt.lists_lengths p1.isList p2.isList (by simp;omega) (by omega))
 |@tup n a b xs ys e hx hy h ih =>
  intro A u v hu ru rv
  have hb:=Zkn I (.tup e hx hy h)
  cases ru
  cases rv
  by_cases hab:a=b
  ·subst hab
   rw[hb rfl];exact SeqAt.EqAt.same _
  ·obtain⟨is1,r1,p1,_⟩:=I.tuple hx
   obtain⟨is2,r2,p2,_⟩:=I.tuple hy
   have e1:=r1.length
   have e2:=r2.length
   have key:=SeqAt.RcAt.tuples (A:=A) (s:=s) (e:=e) p1 p2 (by omega) λj h1 h2=>by
    have h1':j<xs.length:=by simpa[e1]using h1
    have h2':j<ys.length:=by simpa[e2]using h2
    obtain⟨u,hu1,ru⟩:=r1.get (Yh h1')
    obtain⟨v,hv1,rv⟩:=r2.get (Yh h2')
    have eu:is1.toArray[j]=u:=by simpa using(Yr.mp hu1).2
    have ev:is2.toArray[j]=v:=by simpa using(Yr.mp hv1).2
    rw[eu,ev]
    exact ih j _ _ (Yh h1') (Yh h2') A.in1 u v (by show A.units+1+n<cLine;omega) ru rv
   have e3:is1.toArray.size=xs.length:=by simp[e1]
   have e4:is2.toArray.size=ys.length:=by simp[e2]
   rw[e3,e4]at key
   exact SeqAt.EqAt.of_refs hab key
end
noncomputable def rEqD (K:Frag) (neg:Bool):R2:=λx y H Q=>∃a b k,x=.ref a/\y=.ref b/\EqD K H 3 x y k/\Q (.bl (if neg then !k else k)) H
section
variable {X:Cx}
theorem Zoj {K:Frag} (hK:X.K=K) {k:Nat} (hr:Room k X.A):OpR X (compareOp .Eq) (rEqD K false):=by
 subst hK
 have hu0:=hr.un
 intro pins s σ H x y v u Q I rx ry h
 obtain⟨a,b,k,rfl,rfl,h,q⟩:=h
 cases rx
 cases ry
 cases h with
 |flat fx fy=>cases fx
 |@lst n _ _ xs ys e hx hy hl h =>
  obtain⟨is1,r1,p1,_⟩:=I.list hx
  obtain⟨is2,r2,p2,_⟩:=I.list hy
  have e1:=r1.length
  have e2:=r2.length
  have e3:is1.toArray.size=xs.length:=by simp[e1]
  refine SeqAt.eq_listAt (e:=e) p1.isList p2.isList (by simp;omega) (by omega) (λj h1 h2=>?_) ⟨.bl _,H,I,rfl,by rw[e3];exact q⟩
  have h1':j<xs.length:=by simpa[e1]using h1
  have h2':j<ys.length:=by simpa[e2]using h2
  obtain⟨u,hu1,ru⟩:=r1.get (Yh h1')
  obtain⟨v,hv1,rv⟩:=r2.get (Yh h2')
  have eu:is1.toArray[j]=u:=by simpa using(Yr.mp hu1).2
  have ev:is2.toArray[j]=v:=by simpa using(Yr.mp hv1).2
  rw[eu,ev]
  exact Zjs I (h j _ _ (Yh h1') (Yh h2')) X.A.in1 u v (by show X.A.units+1+2<cLine;omega) ru rv
 |@len n _ _ xs ys hx hy hl =>
  obtain⟨is1,r1,p1,_⟩:=I.list hx
  obtain⟨is2,r2,p2,_⟩:=I.list hy
  have e1:=r1.length
  have e2:=r2.length
  exact SeqAt.eq_list_lengthsAt p1.isList p2.isList (by simp;omega) (by omega) ⟨.bl _,H,I,rfl,q⟩
 |@tup n _ _ xs ys e hx hy h =>
  obtain⟨is1,r1,p1,_⟩:=I.tuple hx
  obtain⟨is2,r2,p2,_⟩:=I.tuple hy
  have e1:=r1.length
  have e2:=r2.length
  have e3:is1.toArray.size=xs.length:=by simp[e1]
  have e4:is2.toArray.size=ys.length:=by simp[e2]
  refine SeqAt.eq_tupleAt (e:=e) p1 p2 (by omega) (λj h1 h2=>?_) ⟨.bl _,H,I,rfl,by rw[e3,e4];exact q⟩
  have h1':j<xs.length:=by simpa[e1]using h1
  have h2':j<ys.length:=by simpa[e2]using h2
  obtain⟨u,hu1,ru⟩:=r1.get (Yh h1')
  obtain⟨v,hv1,rv⟩:=r2.get (Yh h2')
  have eu:is1.toArray[j]=u:=by simpa using(Yr.mp hu1).2
  have ev:is2.toArray[j]=v:=by simpa using(Yr.mp hv1).2
  rw[eu,ev]
  exact Zjs I (h j _ _ (Yh h1') (Yh h2')) X.A.in1 u v (by show X.A.units+1+2<cLine;omega) ru rv
theorem Zok {K:Frag} (hK:X.K=K) {k:Nat} (hr:Room k X.A):OpR X (compareOp .NotEq) (rEqD K true):=by
 subst hK
 have hu0:=hr.un
 intro pins s σ H x y v u Q I rx ry h
 obtain⟨a,b,k,rfl,rfl,h,q⟩:=h
 cases rx
 cases ry
 cases h with
 |flat fx fy=>cases fx
 |@lst n _ _ xs ys e hx hy hl h =>
  obtain⟨is1,r1,p1,_⟩:=I.list hx
  obtain⟨is2,r2,p2,_⟩:=I.list hy
  have e1:=r1.length
  have e2:=r2.length
  have e3:is1.toArray.size=xs.length:=by simp[e1]
  refine SeqAt.RcNeAt.lists (e:=e) p1.isList p2.isList (by simp;omega) (by omega) (λj h1 h2=>?_) _ _ _ _ ⟨.bl _,H,I,rfl,by rw[e3];exact q⟩
  have h1':j<xs.length:=by simpa[e1]using h1
  have h2':j<ys.length:=by simpa[e2]using h2
  obtain⟨u,hu1,ru⟩:=r1.get (Yh h1')
  obtain⟨v,hv1,rv⟩:=r2.get (Yh h2')
  have eu:is1.toArray[j]=u:=by simpa using(Yr.mp hu1).2
  have ev:is2.toArray[j]=v:=by simpa using(Yr.mp hv1).2
  rw[eu,ev]
  exact Zjs I (h j _ _ (Yh h1') (Yh h2')) X.A.in1 u v (by show X.A.units+1+2<cLine;omega) ru rv
 |@len n _ _ xs ys hx hy hl =>
  obtain⟨is1,r1,p1,_⟩:=I.list hx
  obtain⟨is2,r2,p2,_⟩:=I.list hy
  have e1:=r1.length
  have e2:=r2.length
  exact SeqAt.RcNeAt.lists_lengths p1.isList p2.isList (by simp;omega) (by omega) _ _ _ _ ⟨.bl _,H,I,rfl,q⟩
 |@tup n _ _ xs ys e hx hy h =>
  obtain⟨is1,r1,p1,_⟩:=I.tuple hx
  obtain⟨is2,r2,p2,_⟩:=I.tuple hy
  have e1:=r1.length
  have e2:=r2.length
  have e3:is1.toArray.size=xs.length:=by simp[e1]
  have e4:is2.toArray.size=ys.length:=by simp[e2]
  refine SeqAt.RcNeAt.tuples (e:=e) p1 p2 (by omega) (λj h1 h2=>?_) _ _ _ _ ⟨.bl _,H,I,rfl,by rw[e3,e4];exact q⟩
  have h1':j<xs.length:=by simpa[e1]using h1
  have h2':j<ys.length:=by simpa[e2]using h2
  obtain⟨u,hu1,ru⟩:=r1.get (Yh h1')
  obtain⟨v,hv1,rv⟩:=r2.get (Yh h2')
  have eu:is1.toArray[j]=u:=by simpa using(Yr.mp hu1).2
  have ev:is2.toArray[j]=v:=by simpa using(Yr.mp hv1).2
  rw[eu,ev]
  exact Zjs I (h j _ _ (Yh h1') (Yh h2')) X.A.in1 u v (by show X.A.units+1+2<cLine;omega) ru rv
end
noncomputable def IsI (v:V) (i:Int):Prop:=v=.int i
noncomputable def IsL (K:Frag) (H:Hp) {α:Type} (P:V->α->Prop) (v:V) (as:List α):Prop:=∃a xs,v=.ref a/\SqL K H a xs/\xs.length=as.length/\∀(j:Nat) (x:V) (y:α),xs[j]?=some x->as[j]?=some y->P x y
noncomputable def IsT (K:Frag) (H:Hp) {α:Type} (P:V->α->Prop) (v:V) (as:List α):Prop:=∃a xs,v=.ref a/\SqT K H a xs/\xs.length=as.length/\∀(j:Nat) (x:V) (y:α),xs[j]?=some x->as[j]?=some y->P x y
noncomputable def EqP (K:Frag) (H:Hp) (n:Nat) {α:Type} [DecidableEq α] (P:V->α->Prop):Prop:=∀x y a b,P x a->P y b->EqD K H n x y (decide (a=b))
theorem Zhc {K:Frag}{H:Hp}{n:Nat}:EqP K H n IsI:=by
 rintro x y a b rfl rfl
 have:=EqD.flat (K:=K) (H:=H) (n:=n) (x:=.int a) (y:=.int b) rfl rfl
 have e:eqV (.int a) (.int b)=decide (a=b):=by simp[eqV,Bool.beq_eq_decide_eq]
 rw[<-e];exact this
theorem all_eq {α:Type} [DecidableEq α] (as bs:List α) (h:as.length=bs.length):(List.range as.length).all (λj=>decide (as[j]?=bs[j]?))=decide (as=bs):=by
 rw[Bool.eq_iff_iff,List.all_eq_true,decide_eq_true_iff]
 constructor
 ·intro q
  refine List.ext_getElem? λj=>?_
  by_cases hj:j<as.length
  ·simpa using q j (YC.mpr hj)
  ·rw[List.getElem?_eq_none (by omega),List.getElem?_eq_none (by omega)]
 ·rintro rfl j _;simp
theorem Zqr {K:Frag}{H:Hp}{n:Nat}{α:Type} [DecidableEq α] {P:V->α->Prop} (h:EqP K H n P):EqP K H (n+1) (IsL K H P):=by
 rintro x y as bs ⟨a,xs,rfl,hx,lx,px⟩ ⟨b,ys,rfl,hy,ly,py⟩
 by_cases hl:as.length=bs.length
 ·rw[<-all_eq as bs hl,<-lx]
  refine .lst _ hx hy (by omega) λj x y h1 h2=>?_
  have j1:=(Yr.mp h1).1
  have j2:=(Yr.mp h2).1
  have ha:as[j]?=some as[j]:=Yh (by omega)
  have hb:bs[j]?=some bs[j]:=Yh (by omega)
  have:=h x y _ _ (px j _ _ h1 ha) (py j _ _ h2 hb)
  rw[ha,hb]
  simpa using this
 ·have e:decide (as=bs)=false:=by simp;intro z;exact hl (congrArg List.length z)
  rw[e]
  exact .len hx hy (by omega)
theorem Zjt {K:Frag}{H:Hp}{n:Nat}{α:Type} [DecidableEq α] {P:V->α->Prop} (h:EqP K H n P):EqP K H (n+1) (IsT K H P):=by
 rintro x y as bs ⟨a,xs,rfl,hx,lx,px⟩ ⟨b,ys,rfl,hy,ly,py⟩
 have key:=EqD.tup (K:=K) (H:=H) (n:=n) (λj=>decide (as[j]?=bs[j]?)) hx hy λj x y h1 h2=>by
  have j1:=(Yr.mp h1).1
  have j2:=(Yr.mp h2).1
  have ha:as[j]?=some as[j]:=Yh (by omega)
  have hb:bs[j]?=some bs[j]:=Yh (by omega)
  have:=h x y _ _ (px j _ _ h1 ha) (py j _ _ h2 hb)
  rw[ha,hb]
  simpa using this
 have e:((List.range (min xs.length ys.length)).all (λj=>decide (as[j]?=bs[j]?))&&xs.length==ys.length)=decide (as=bs):=by
  rw[lx,ly]
  by_cases hl:as.length=bs.length
  ·rw[<-hl,Nat.min_self,all_eq as bs hl];simp
  ·have e:decide (as=bs)=false:=by simp;intro z;exact hl (congrArg List.length z)
   rw[e]
   simp[hl]
 rw[e]at key
 exact key
theorem Zko {K:Frag}{H:Hp}{a:Addr}{ns:List Int} (h:SqL K H a (ns.map V.int)):IsL K H IsI (.ref a) ns:=⟨a,_,rfl,h,by simp,λj x y h1 h2=>by
 rw[YE,h2]at h1
 exact(Yy h1).symm⟩
theorem ZcA {K:Frag}{H:Hp}{a:Addr}{ns:List Int} (h:SqT K H a (ns.map V.int)):IsT K H IsI (.ref a) ns:=⟨a,_,rfl,h,by simp,λj x y h1 h2=>by
 rw[YE,h2]at h1
 exact(Yy h1).symm⟩
section
variable {X:Cx}
noncomputable def tRngV (ta:TA):TE:=fun σ H Q=>ta σ H λvs H1=>∃j:Int,vs=[.int j]/\-(2 ^ 62)<=j/\j<2 ^ 62/\∀p,H1 p=none->Q (.ref p) (upd H1 p (.rng 0 j))
theorem Zf4 {a:Expr}{ta:TA}{p pos:Pos} (hg:Gl X "range") (hm:X.mg "range"=none) (ha:PA X [a] ta) (hs:starEach [a] X.env=[(false,eval a X.env)]:=by rfl):PE X (.Call (.Name "range" p) [a] [] pos) (tRngV ta):=by
 intro pins s σ H Q I h
 refine wpAny_Call_Name_kw (Zbc I hg hm boot_range (PyProof.Rows.callWith_type1 (thn (ha pos pins s σ H _ I h) λus s1 ⟨vs,H1,I1,r1,q1⟩=>?_) hs rfl))
 obtain⟨j,e,q1,q2,q⟩:=q1
 subst e
 obtain⟨u,rfl,ru⟩:=r1.one
 obtain⟨t,rfl⟩:=ru
 refine call_range_1 ⟨.ref s1.heap.objs.size,_,I1.laid (λb o e=>Yk _ e) (Yd _) ?_,rfl,q _ (I1.hok.fresh (Yd _))⟩
 exact⟨_,_,_,Yp _ rfl⟩
theorem Zqs {g:Nat->V}{P:Nat->Value->Prop} (hP:∀i v,P i v->RelV (g i) v):∀(n:Nat) (us:List Value),us.length=n->(∀(j:Nat) (v:Value),us[j]?=some v->P j v)->Vals ((List.range n).map g) us:=by
 intro n
 induction n with
 |zero =>
  intro us hl _
  cases us with
  |nil=>exact .nil
  |cons _ _=>cases hl
 |succ n ih =>
  intro us hl h
  have hne:us≠[]:=λz=>by rw[z]at hl;cases hl
  rw[YJ,YM,<-List.dropLast_concat_getLast hne]
  have hl2:us.dropLast.length=n:=by rw[List.length_dropLast,hl];rfl
  refine(ih us.dropLast hl2 λj v hj=>?_).append (.cons ?_ .nil)
  ·have hj2:=(Yr.mp hj).1
   refine h j v ?_
   rw[List.getElem?_dropLast]at hj
   split at hj
   ·exact hj
   ·cases hj
  ·refine hP n _ (h n _ ?_)
   rw[List.getLast_eq_getElem]
   rw[Yr]
   refine⟨by omega,?_⟩
   congr 1
   omega
noncomputable def rAll (K:Frag):List V->Hp->VK->Prop:=λxs H Q=>∃(p:Addr) (bs:List Bool),xs=[.ref p]/\SqL K H p (bs.map V.bl)/\Q (.bl (bs.all id)) H
theorem all_ix (bs:List Bool):(List.range bs.length).all (λi=>bs.getD i false)=bs.all id:=by
 rw[Bool.eq_iff_iff,List.all_eq_true,List.all_eq_true]
 constructor
 ·intro h x hx
  obtain⟨j,hj,rfl⟩:=Y1 hx
  have:=h j (YC.mpr hj)
  simpa[Yg,hj]using this
 ·intro h j hj
  have hj':=YC.mp hj
  have:=h _ (YF hj')
  simpa[Yg,hj']using this
theorem Zkp {prog:Program}{w:World}{A:Around}{bs:List Bool}{its:List Value} (r:Vals (bs.map V.bl) its):TruthOf prog w A (λi v=>its.toArray[i]?=some v) (λi=>bs.getD i false):=by
 intro i v s Q E hv hq
 have hv':its[i]?=some v:=by simpa using hv
 have hl:=r.length
 have hi:i<bs.length:=by
  have:=(Yr.mp hv').1
  rw[Yi]at hl;omega
 obtain⟨u,hu,ru⟩:=r.get (i:=i) (x:=V.bl bs[i]) (by rw[YE,Yh hi];rfl)
 rw[hv']at hu
 cases hu
 cases ru
 refine wpAny_truthy_bool ?_
 simpa[Yg,hi]using hq
theorem Zol {K:Frag} (hK:X.K=K) (hc:X.calm=true):Zbl X (.builtin "all") (rAll K):=by
 subst hK
 intro pins s σ H xs us Q I r h
 obtain⟨p,bs,rfl,hp,q⟩:=h
 obtain⟨u,rfl,ru⟩:=r.one
 cases(show u=Value.ref p from ru)
 obtain⟨its,r',pl,hz⟩:=I.list hp
 have hl:=r'.length
 refine call_all_walk (wpAny_pyIter_list pl.isList ?_)
 have hne:p≠s.heap.objs.size:=by obtain⟨o,e,_⟩:=pl.isList;exact Yl (Yj e)
 refine⟨s.heap.objs.size,_,_,_,_,_,λi=>bs.getD i false,rfl,Walks.list (A:=X.A.in1) (show X.A.in1.handled=none from I.ok.hd hc) _ p hne its.toArray,⟨⟨_,Yp _ rfl,rfl,rfl⟩,pl.isList.push _⟩,Zkp r',λh' tk kp=>?_⟩
 have e1:its.toArray.size=bs.length:=by rw[Yt];rw[Yi]at hl;omega
 rw[e1,all_ix]
 exact⟨.bl _,H,I.kept (t':=tk) λb o e=>kp b o (by simp;exact Yl (Yj e)) (Yk _ e),rfl,q⟩
noncomputable def ipM:TIp:=λx y H Q=>∃i j,x=.int i/\y=.int j/\IntMulOk i j/\Q (.int (i*j)) H
theorem Zom:PIp X .Mult ipM:=by
 intro pins s σ H x y v u Q I r1 r2 h
 obtain⟨i,j,e1,e2,hm,q⟩:=h
 subst e1;subst e2
 obtain⟨t,rfl⟩:=r1
 obtain⟨t',rfl⟩:=r2
 exact imul_int ⟨.int _,H,I.tok _,⟨_,rfl⟩,q⟩ hm
noncomputable def rIxQ (K:Frag):R2:=λx y H Q=>∃p xs i v,x=.ref p/\y=.int i/\(SqL K H p xs\/SqT K H p xs)/\atI xs i=some v/\Q v H
theorem ix_q {K:Frag} (hK:X.K=K):IxR X (rIxQ K):=by
 subst hK
 intro value slice pins s σ H x y v u Q I rx ry h hs
 refine(Zu.or Zhq) (value:=value) (slice:=slice) pins s σ H x y v u Q I rx ry ?_ hs
 obtain⟨p,xs,i,v,rfl,rfl,hq,ha,q⟩:=h
 rcases hq with hq|hq
 ·exact .inl ⟨p,xs,i,v,rfl,rfl,hq,ha,q⟩
 ·exact .inr ⟨p,xs,i,v,rfl,rfl,hq,ha,q⟩
theorem bt_all:bootBuiltins "all"=some (.builtin "all"):=by decide +kernel
end
noncomputable def ZiM (f:Nat->Int) (a b p:Nat):Prop:=a<=p/\p<=b/\(∀q,a<=q->q<p->f p<f q)/\∀q,p<q->q<=b->f p<=f q
theorem ZiM.join {f:Nat->Int}{a m a' b p q:Nat} (h:ZiM f a m p) (k:ZiM f a' b q) (h1:a<=a') (h2:a'<=m+1) (h3:m<=b):ZiM f a b (if f q<f p then q else p):=by
 obtain⟨p1,p2,p3,p4⟩:=h
 obtain⟨q1,q2,q3,q4⟩:=k
 have pm:∀r,a<=r->r<=m->f p<=f r:=λr r1 r2=>by
  rcases Nat.lt_trichotomy r p with z|z|z
  ·exact Int.le_of_lt (p3 r r1 z)
  ·rw[z];exact Int.le_refl _
  ·exact p4 r z r2
 have qm:∀r,a'<=r->r<=b->f q<=f r:=λr r1 r2=>by
  rcases Nat.lt_trichotomy r q with z|z|z
  ·exact Int.le_of_lt (q3 r r1 z)
  ·rw[z];exact Int.le_refl _
  ·exact q4 r z r2
 split
 ·rename_i hlt
  refine⟨by omega,q2,λr r1 r2=>?_,λr r1 r2=>qm r (by omega) r2⟩
  by_cases z:a'<=r
  ·exact q3 r z r2
  ·have:=pm r r1 (by omega);omega
 ·rename_i hle
  refine⟨p1,by omega,p3,λr r1 r2=>?_⟩
  by_cases z:r<=m
  ·exact p4 r r1 z
  ·have:=qm r (by omega) r2;omega
noncomputable def ZmY (f:Nat->Int) (a:Nat):Nat->Nat
 |0=>a
 |c+1=>if f (a+c+1)<f (ZmY f a c)then a+c+1 else ZmY f a c
theorem ZiN (f:Nat->Int) (a:Nat):ZiM f a a a:=⟨Yd _,Yd _,λq h1 h2=>by omega,λq h1 h2=>by omega⟩
theorem Zmr (f:Nat->Int) (a c:Nat):ZiM f a (a+c) (ZmY f a c):=by
 induction c with
 |zero=>exact ZiN f a
 |succ c ih =>
  rw[ZmY]
  exact ih.join (ZiN f (a+c+1)) (by omega) (by omega) (by omega)
noncomputable def nth (ns:List Int) (i:Nat):Int:=ns.getD i 0
theorem Zdw {ns:List Int}{i:Nat} (h:i<ns.length):atI (ns.map V.int) (i:Int)=some (V.int (nth ns i)):=by
 rw[Zhv rfl (by simpa using h)]
 simp[nth,Yg,h]
noncomputable def WI (N:Nat) (Pv:Nat->St->Hp->Prop) (m:Nat) (σ:St) (H:Hp):Prop:=∃i,m=N-i/\i<=N/\Pv i σ H
theorem WI.next {N:Nat}{Pv:Nat->St->Hp->Prop}{i:Nat}:∀σ' H',(i+1<=N/\Pv (i+1) σ' H')->∃m',m'<N-i/\WI N Pv m' σ' H':=fun σ' H' h=>⟨N-(i+1),by omega,i+1,rfl,h.1,h.2⟩
theorem Zju {c:TT}{tb:TS}{D:Ends}{σ:St}{H:Hp} (N:Nat) (Pv:Nat->St->Hp->Prop) (h0:Pv 0 σ H)
  (hs:∀i σ H,i<=N->Pv i σ H->c σ H λb H1=>if b=true then ∃Nx:St->Hp->Prop,(∀σ' H',Nx σ' H'->∃m',m'<N-i/\WI N Pv m' σ' H')/\tb {D with nx:=Nx,ct:=Nx,bk:=D.nx} σ H1 else D.nx σ H1):Zob c tb D σ H:=by
 refine⟨WI N Pv,⟨N,0,rfl,Ym _,h0⟩,?_⟩
 rintro m σ H ⟨i,rfl,hi,p⟩
 exact hs i σ H hi p
theorem Zf.Zbp {K:Frag}{H H':Hp}{a:Addr}{xs:List V} (e:Zf H H') (h:SqT K H a xs):SqT K H' a xs:=by
 rcases h with(h|⟨o,h⟩)|h
 ·exact .inl (.inl (e _ _ h))
 ·exact .inl (.inr ⟨o,e _ _ h⟩)
 ·exact .inr h
theorem Zf.q {K:Frag}{H H':Hp}{a:Addr}{xs:List V} (e:Zf H H') (h:SqL K H a xs\/SqT K H a xs):SqL K H' a xs\/SqT K H' a xs:=h.imp e.seq e.Zbp
theorem Exc.trans {p:Addr}{H H1 H2:Hp} (a:Exc p H H1) (b:Exc p H1 H2):Exc p H H2:=λc o n z=>b c o n (a c o n z)
theorem Exc.free {p q:Addr}{H H':Hp} (e:Exc p H H') (n:q≠p) (h:H' q=none):H q=none:=by
 cases z:H q with
 |none=>rfl
 |some o=>rw[e q o n z]at h;cases h
theorem Exc.updN {p q:Addr}{H H':Hp}{o:HO} (e:Exc p H H') (h:H q=none):Exc p H (L2.upd H' q o):=λb u n z=>by
 rw[Zh (Zo z h)];exact e b u n z
theorem Exc.same {p:Addr}{H H1 H2:Hp} (a:Exc p H H1) (s:Zf H1 H2):Exc p H H2:=a.trans s.Zgx
section
variable {X:Cx}{a b c d:Expr}{ta tb tc td:TE}{pos:Pos}
noncomputable def iSeq (K:Frag) (tl:TE):TI:=fun σ H R=>tl σ H λx H1=>∃a,x=.ref a/\(((∃xs,SqL K H1 a xs)/\R (Itl K a) H1)\/((∃xs,SqT K H1 a xs)/\R (Itt K a) H1))
theorem Zon {tg l:Expr}{tl:TE}{K:Frag} (hK:X.K=K) (hl:PE X l tl):PI X tg l (iSeq K tl):=by
 subst hK
 intro pins s σ H R I h
 refine thn (hl pins s σ H _ I h) λv s1 ⟨x,H1,I1,r1,q1⟩=>?_
 obtain⟨a,e,q1⟩:=q1
 subst e
 cases r1
 rcases q1 with⟨⟨xs,hq⟩,q⟩|⟨⟨xs,hq⟩,q⟩
 ·obtain⟨its,rv,p,hz⟩:=I1.list hq
  refine wpAny_pyIter_list p.isList ?_
  refine⟨s1.heap.objs.size,[s1.heap.objs.size],_,_,H1,rfl,I1.kept (t':=s1.toks) λb o e=>Yk _ e,ZiC a _,⟨_,Yp _ rfl,rfl,rfl⟩,λb hb=>?_,q⟩
  have e:b=s1.heap.objs.size:=by simpa using hb
  subst e
  exact I1.Zjh (Yd _) (I1.hok.fresh (Yd _))
 ·obtain⟨its,rv,p,hz⟩:=I1.tuple hq
  refine wpAny_pyIter_tuple (show s1.heap.IsTuple a its.toArray from p) ?_
  refine⟨s1.heap.objs.size,[s1.heap.objs.size],_,_,H1,rfl,I1.kept (t':=s1.toks) λb o e=>Yk _ e,Zhk a _,⟨_,Yp _ rfl,rfl,rfl⟩,λb hb=>?_,q⟩
  have e:b=s1.heap.objs.size:=by simpa using hb
  subst e
  exact I1.Zjh (Yd _) (I1.hok.fresh (Yd _))
end
noncomputable def CA (n:Nat) (Pv:Nat->List V->Hp->Prop) (i m:Nat) (acc:List V) (H:Hp):Prop:=m=n-i/\i<=n/\acc.length<=i/\Pv i acc H
theorem CA.take {n:Nat}{Pv:Nat->List V->Hp->Prop}{i:Nat}{acc:List V}{v:V}{H:Hp} (hi:i<n) (hl:acc.length<=i) (h:Pv (i+1) (acc++[v]) H):∃m',m'<n-i/\CA n Pv (i+1) m' (acc++[v]) H:=⟨n-(i+1),by omega,rfl,hi,by simp;omega,h⟩
theorem Zfs {J:It}{n:Nat}{H1:Hp}{g:TG}{tt:TT}{te:TE}{σ0:St}{Q:VK} (Pv:Nat->List V->Hp->Prop) (hn:n<sizeLine) (h0:Pv 0 [] H1) (hgo:∀i acc H,Pv i acc H->i<n->J.go i H) (hstop:∀acc H,Pv n acc H->J.stop n H)
  (hb:∀i x acc H H',i<n->acc.length<=i->Pv i acc H->J.yld i H x H'->g x σ0 H' fun σ2 H2=>tt σ2 H2 λb H3=>if b=true then te σ2 H3 λv H4=>∃m',m'<n-i/\CA n Pv (i+1) m' (acc++[v]) H4 else ∃m',m'<n-i/\CA n Pv (i+1) m' acc H3)
  (hk:∀l acc H',Pv n acc H'->acc.length<=n->H' l=none->Q (.ref l) (upd H' l (.lst acc))):ZeI J g tt te σ0 Q H1:=by
 refine⟨CA n Pv,⟨n,rfl,Ym _,Yd _,h0⟩,?_⟩
 rintro i m acc H ⟨rfl,hi,hl,p⟩
 by_cases h:i<n
 ·exact .inr ⟨hgo i acc H p h,by omega,λx H' y=>hb i x acc H H' h hl p y⟩
 ·have e:i=n:=by omega
  subst e
  exact .inl ⟨hstop acc H p,by omega,λq hq=>hk q acc H p hl hq⟩
noncomputable def strip (p:Addr) (H:Hp):Hp:=λb=>if b=p then none else H b
theorem Zao {p b:Addr}{H:Hp} (h:b≠p):strip p H b=H b:=by unfold strip;rw[Yb h]
theorem ZcO {p:Addr}{H:Hp}:strip p H p=none:=by unfold strip;rw[Yc rfl]
section
variable {X:Cx}
theorem Vals.takeN:∀{xs:List V}{us:List Value} (k:Nat),Vals xs us->Vals (xs.take k) (us.take k)
 |_,_,0,_=>by simp;exact .nil
 |_,_,_+1,.nil=>.nil
 |_,_,k+1,.cons r h=>.cons r (Vals.takeN k h)
end
noncomputable def rIntB:List V->Hp->VK->Prop:=λxs H Q=>∃k,xs=[.bl k]/\Q (.int (if k=true then 1 else 0)) H
theorem ZiO {X:Cx}:Zbl X (.type "int") rIntB:=λpins s σ H xs us Q I r h=>ZmI pins s σ H xs us Q I r (.inr h)
end L2
namespace L2
noncomputable def ZU (f:Nat->Int) (p q:Nat):Prop:=q<p/\f q<=f p/\∀r,q<r->r<p->f p<f r
noncomputable def ZO (f:Nat->Int) (n p r:Nat):Prop:=p<r/\r<n/\f r<f p/\∀s,p<s->s<r->f p<=f s
noncomputable def ZaP (f:Nat->Int) (p:Nat):Prop:=∀q,q<p->f p<f q
noncomputable def Zaw (f:Nat->Int) (n p:Nat):Prop:=∀r,p<r->r<n->f p<=f r
noncomputable def Zy (f:Nat->Int) (n p:Nat) (e:Int):Prop :=
 (ZaP f p/\Zaw f n p/\e=-1)\/(∃q,ZU f p q/\Zaw f n p/\e=q)\/(∃r,ZaP f p/\ZO f n p r/\e=r) \/
 ∃q r,ZU f p q/\ZO f n p r/\e=if f q<=f r then (r:Int)else q
theorem Zkq {P:Nat->Prop} [DecidablePred P] (i:Nat):∀d r,r+d=i->P r->∃t,r<=t/\t<=i/\P t/\∀s,t<s->s<=i->¬ P s:=by
 intro d
 induction d with
 |zero=>intro r e h;exact⟨r,Yd _,by omega,h,λs h1 h2=>by omega⟩
 |succ d ih =>
  intro r e h
  by_cases hx:∃t,r<t/\t<=i/\P t
  ·obtain⟨t,h1,h2,h3⟩:=hx
   -- step to r+1 by cases
   by_cases h4:P (r+1)
   ·obtain⟨u,u1,u2,u3,u4⟩:=ih (r+1) (by omega) h4
    exact⟨u,by omega,u2,u3,u4⟩
   ·-- go on from the next one
    have gen:∀k t,t+k=i->r<t->P t->∃u,r<=u/\u<=i/\P u/\∀s,u<s->s<=i->¬ P s:=by
     intro k
     induction k with
     |zero=>intro t e h1 h3;exact⟨t,by omega,by omega,h3,λs h1 h2=>by omega⟩
     |succ k ihk =>
      intro t e h1 h3
      by_cases hy:∃s,t<s/\s<=i/\P s
      ·-- the last one of the rest
       have key:∀m,m<=i->(∃s,t<s/\s<=m/\P s)->∃u,t<u/\u<=m/\P u/\∀s,u<s->s<=m->¬ P s:=by
        intro m
        induction m with
        |zero=>rintro _ ⟨s,h5,h6,_⟩;omega
        |succ m ihm =>
         rintro hm ⟨s,h5,h6,h7⟩
         by_cases hp:P (m+1)
         ·exact⟨m+1,by omega,Yd _,hp,λs h1 h2=>by omega⟩
         ·have hs:s<=m:=by
           rcases Nat.lt_or_ge m s with z|z
           ·have:s=m+1:=by omega
            rw[this]at h7;exact absurd h7 hp
           ·exact z
          obtain⟨u,u1,u2,u3,u4⟩:=ihm (by omega) ⟨s,h5,hs,h7⟩
          refine⟨u,u1,by omega,u3,λs' h1 h2=>?_⟩
          by_cases e:s'=m+1
          ·rw[e];exact hp
          ·exact u4 s' h1 (by omega)
       obtain⟨u,u1,u2,u3,u4⟩:=key i (Yd _) hy
       exact⟨u,by omega,u2,u3,u4⟩
      ·exact⟨t,by omega,by omega,h3,λs h1 h2 h5=>hy ⟨s,h1,h2,h5⟩⟩
    exact gen (i-t) t (by omega) h1 h3
  ·exact⟨r,Yd _,by omega,h,λs h1 h2 h3=>hx ⟨s,h1,h2,h3⟩⟩
theorem Zlq {P:Nat->Prop} [DecidablePred P] {n r:Nat} (hr:r<n) (h:P r):∃t,r<=t/\t<n/\P t/\∀s,t<s->s<n->¬ P s:=by
 obtain⟨t,h1,h2,h3,h4⟩:=Zkq (P:=P) (n-1) (n-1-r) r (by omega) h
 exact⟨t,h1,by omega,h3,λs a b=>h4 s a (by omega)⟩
noncomputable def Zgz (f:Nat->Int) (i:Nat) (sp:List Nat):Prop:=sp.Pairwise (· < ·)/\∀q,q∈sp↔q<i/\∀r,q<r->r<i->f q<=f r
theorem Zms (f:Nat->Int) (p:Nat):ZaP f p\/∃q,ZU f p q:=by
 by_cases h:∃q,q<p/\f q<=f p
 ·obtain⟨q,h1,h2⟩:=h
  obtain⟨t,_,t2,t3,t4⟩:=Zlq (P:=λq=>f q<=f p) h1 h2
  exact .inr ⟨t,t2,t3,λr a b=>by have:=t4 r a b;omega⟩
 ·exact .inl λq hq=>by
   have:¬ (f q<=f p):=λz=>h ⟨q,hq,z⟩
   omega
theorem ZmZ {f:Nat->Int}{i p q:Nat} (hp:p<i) (ho:∀r,p<r->r<i->f p<=f r) (h:ZU f p q):(∀r,q<r->r<i->f q<=f r)/\∀s,q<s->s<p->¬ ∀r,s<r->r<i->f s<=f r:=by
 obtain⟨h1,h2,h3⟩:=h
 refine⟨λr a b=>?_,λs a b z=>?_⟩
 ·rcases Nat.lt_trichotomy r p with c|c|c
  ·have:=h3 r a c;omega
  ·rw[c];exact h2
  ·have:=ho r c b;omega
 ·have:=z p b hp
  have:=h3 s a b
  omega
theorem ZeT {f:Nat->Int}{i:Nat}{A B:List Nat} (hs:Zgz f i (A++B)) (hA:∀q∈A,f q<=f i) (hB:∀q∈B,f i<f q) :
  Zgz f (i+1) (A++[i])/\Zy f (i+1) i (match A.getLast? with|some q=>(q:Int)|none=>-1)/\∀p e,p<i->Zy f i p e->Zy f (i+1) p (if B.head?=some p then (i:Int)else e):=by
 obtain⟨hso,hm⟩:=hs
 have hAB:=List.pairwise_append.mp hso
 have noNx:Zaw f (i+1) i:=λr a b=>by omega
 refine⟨⟨?_,λq=>?_⟩,?_,λp e hp he=>?_⟩
 ·refine List.pairwise_append.mpr ⟨hAB.1,List.pairwise_singleton _ _,λa ha b hb=>?_⟩
  have:b=i:=by simpa using hb
  rw[this]
  exact((hm a).mp (YN _ ha)).1
 ·rw[Yz,Y3]
  constructor
  ·rintro(h|h)
   ·obtain⟨h1,h2⟩:=(hm q).mp (YN _ h)
    refine⟨by omega,λr a b=>?_⟩
    by_cases e:r=i
    ·rw[e];exact hA q h
    ·exact h2 r a (by omega)
   ·subst h;exact⟨by omega,λr a b=>by omega⟩
  ·rintro⟨h1,h2⟩
   by_cases e:q=i
   ·exact .inr e
   ·have hq:q∈A++B:=(hm q).mpr ⟨by omega,λr a b=>h2 r a (by omega)⟩
    rcases Yz.mp hq with h|h
    ·exact .inl h
    ·have:=hB q h
     have:=h2 i (by omega) (by omega)
     omega
 ·-- the ZkM of i
  rcases Zms f i with h|⟨q,h⟩
  ·have hA0:A=[]:=by
    cases A with
    |nil=>rfl
    |cons a r =>
     have h1:=((hm a).mp (by simp)).1
     have:=hA a (by simp)
     have:=h a h1
     omega
   rw[hA0]
   exact .inl ⟨h,noNx,rfl⟩
  ·have ho:∀r,q<r->r<i->f q<=f r:=λr a b=>by have:=h.2.2 r a b;have:=h.2.1;omega
   have hqA:q∈A:=by
    rcases Yz.mp ((hm q).mpr ⟨h.1,ho⟩)with z|z
    ·exact z
    ·have:=hB q z;have:=h.2.1;omega
   have hlast:A.getLast?=some q:=by
    have hne:A≠[]:=λz=>by rw[z]at hqA;cases hqA
    rw[List.getLast?_eq_some_getLast hne]
    congr 1
    have hl:A.getLast hne∈A:=List.getLast_mem hne
    -- q<=last,and last is not past q
    by_cases e:A.getLast hne=q
    ·exact e
    ·exfalso
     have hlt:q<A.getLast hne:=by
      have hd:=List.dropLast_concat_getLast hne
      have hq2:q∈A.dropLast:=by
       rw[<-hd]at hqA
       rcases Yz.mp hqA with z|z
       ·exact z
       ·exact absurd (by simpa using z) (Ne.symm e)
      have hp2:=hAB.1
      rw[<-hd]at hp2
      exact(List.pairwise_append.mp hp2).2.2 q hq2 _ (by simp)
     have h1:=((hm (A.getLast hne)).mp (YN _ hl)).1
     have:=h.2.2 _ hlt h1
     have:=hA _ hl
     omega
   rw[hlast]
   exact .inr (.inl ⟨q,h,noNx,rfl⟩)
 ·-- the ZkM of an earlier place
  have nxt:∀r,ZO f i p r->ZO f (i+1) p r:=λr ⟨a,b,c,d⟩=>⟨a,by omega,c,d⟩
  by_cases hop:Zaw f i p
  ·have hmem:p∈A++B:=(hm p).mpr ⟨hp,hop⟩
   by_cases hlt:f i<f p
   ·have hnx:ZO f (i+1) p i:=⟨hp,by omega,hlt,λs a b=>hop s a b⟩
    have hpB:p∈B:=by
     rcases Yz.mp hmem with z|z
     ·have:=hA p z;omega
     ·exact z
    obtain⟨b0,Br,rfl⟩:∃b0 Br,B=b0::Br:=by
     cases B with
     |nil=>cases hpB
     |cons b0 Br=>exact⟨b0,Br,rfl⟩
    have hhead:(b0::Br).head?=some b0:=rfl
    rw[hhead]
    rcases Zms f p with hn|⟨q,hq⟩
    ·-- nothing ahead: p is the first of all
     have e0:b0=p:=by
      by_cases z:b0=p
      ·exact z
      ·exfalso
       have hpr:p∈Br:=by
        rcases Yo.mp hpB with y|y
        ·exact absurd y.symm z
        ·exact y
       have hlt2:b0<p:=(Y7.mp hAB.2.1).1 p hpr
       have:=((hm b0).mp (by simp)).2 p hlt2 hp
       have:=hn b0 hlt2
       omega
     rw[Yc (by rw[e0])]
     exact .inr (.inr (.inl ⟨i,hn,hnx,rfl⟩))
    ·obtain⟨hq1,hq2⟩:=ZmZ hp hop hq
     have hqm:q∈A++b0::Br:=(hm q).mpr ⟨Nat.lt_trans hq.1 hp,hq1⟩
     by_cases hqi:f q<=f i
     ·-- q is kept: p is the first of B
      have e0:b0=p:=by
       by_cases z:b0=p
       ·exact z
       ·exfalso
        have hpr:p∈Br:=by
         rcases Yo.mp hpB with y|y
         ·exact absurd y.symm z
         ·exact y
        have hlt2:b0<p:=(Y7.mp hAB.2.1).1 p hpr
        have hb0:=(hm b0).mp (by simp)
        have hqA:q∈A:=by
         rcases Yz.mp hqm with y|y
         ·exact y
         ·have:=hB q y;omega
        have hqb:q<b0:=hAB.2.2 q hqA b0 (by simp)
        exact hq2 b0 hqb hlt2 hb0.2
      rw[Yc (by rw[e0])]
      refine .inr (.inr (.inr ⟨q,i,hq,hnx,?_⟩))
      rw[Yc hqi]
     ·-- q goes,too: the ZkM stays
      have hqB:q∈b0::Br:=by
       rcases Yz.mp hqm with y|y
       ·exact absurd (hA q y) hqi
       ·exact y
      have hne:b0≠p:=by
       intro z
       subst z
       rcases Yo.mp hqB with y|y
       ·have:=hq.1;omega
       ·have:=(Y7.mp hAB.2.1).1 q y
        have:=hq.1;omega
      rw[Yb (by intro z;exact hne (Yy z))]
      have ee:e=q:=by
       rcases he with⟨h1,_,_⟩|⟨q',h1,_,h3⟩|⟨r,h1,_,_⟩|⟨q',r,_,h2,_⟩
       ·have:=h1 q hq.1;have:=hq.2.1;omega
       ·have:q'=q:=by
         rcases Nat.lt_trichotomy q' q with y|y|y
         ·have:=h1.2.2 q y hq.1;have:=hq.2.1;omega
         ·exact y
         ·have:=hq.2.2 q' y h1.1;have:=h1.2.1;omega
        rw[h3,this]
       ·have:=h1 q hq.1;have:=hq.2.1;omega
       ·have:=hop r h2.1 h2.2.1;have:=h2.2.2.1;omega
      refine .inr (.inr (.inr ⟨q,i,hq,hnx,?_⟩))
      rw[Yb hqi,ee]
   ·-- still open: not of B
    have hnn:Zaw f (i+1) p:=λr a b=>by
     by_cases z:r=i
     ·rw[z];omega
     ·exact hop r a (by omega)
    have hne:B.head?≠some p:=λz=>by
     have:p∈B:=List.mem_of_head? z
     have:=hB p this
     omega
    rw[Yb hne]
    rcases he with⟨h1,_,h3⟩|⟨q,h1,_,h3⟩|⟨r,_,h2,_⟩|⟨q,r,_,h2,_⟩
    ·exact .inl ⟨h1,hnn,h3⟩
    ·exact .inr (.inl ⟨q,h1,hnn,h3⟩)
    ·have:=hop r h2.1 h2.2.1;have:=h2.2.2.1;omega
    ·have:=hop r h2.1 h2.2.1;have:=h2.2.2.1;omega
  ·-- shut already
   have hne:B.head?≠some p:=λz=>hop ((hm p).mp (Yq _ (List.mem_of_head? z))).2
   rw[Yb hne]
   rcases he with⟨_,h2,_⟩|⟨q,_,h2,_⟩|⟨r,h1,h2,h3⟩|⟨q,r,h1,h2,h3⟩
   ·exact absurd h2 hop
   ·exact absurd h2 hop
   ·exact .inr (.inr (.inl ⟨r,h1,nxt r h2,h3⟩))
   ·exact .inr (.inr (.inr ⟨q,r,h1,nxt r h2,h3⟩))
end L2
namespace L2
open PySem PySem.Spec PyProof.Rows PySem.W
theorem Zhy {α β:Type}{f g:α->Option β}:∀{l:List α},(∀x∈l,f x=g x)->l.filterMap f=l.filterMap g
 |[],_=>rfl
 |x::r,h=>by rw[List.filterMap_cons,List.filterMap_cons,h x (YQ ..),Zhy λy hy=>h y (YK _ hy)]
theorem Zm0 (its:List Value) (k:Nat) (hk:k<=its.length) (start:Nat):(its.zipIdx start).filterMap (λxk=>if (decide (((start+k:Nat):Int)<=(xk.2:Int))&&decide ((xk.2:Int)<((start+its.length:Nat):Int))&&(((xk.2:Int)-((start+k:Nat):Int)) % 1==0))=true then none else some xk.1)=its.take k:=by
 induction its generalizing k start with
 |nil=>simp
 |cons x r ih =>
  rw[List.zipIdx_cons,List.filterMap_cons]
  cases k with
  |zero =>
   have h1:(decide (((start+0:Nat):Int)<=(start:Int))&&decide ((start:Int)<((start+(x::r).length:Nat):Int))&&(((start:Int)-((start+0:Nat):Int)) % 1==0))=true:=by
    simp;omega
   simp only[h1,if_true]
   have:=ih 0 (by omega) (start+1)
   rw[List.take_zero]at this⊢
   rw[<-this]
   refine Zhy λxk hxk=>?_
   have hm:=List.mem_zipIdx hxk
   have e1:(decide (((start+0:Nat):Int)<=(xk.2:Int)))=(decide (((start+1+0:Nat):Int)<=(xk.2:Int))):=by
    rw[decide_eq_decide];omega
   have e2:((start+(x::r).length:Nat):Int)=((start+1+r.length:Nat):Int):=by simp;omega
   have e3:(((xk.2:Int)-((start+0:Nat):Int)) % 1==0)=(((xk.2:Int)-((start+1+0:Nat):Int)) % 1==0):=by simp[Int.emod_one]
   rw[e1,e2,e3]
  |succ k =>
   have h1:(decide (((start+(k+1):Nat):Int)<=(start:Int))&&decide ((start:Int)<((start+(x::r).length:Nat):Int))&&(((start:Int)-((start+(k+1):Nat):Int)) % 1==0))=false:=by
    have:decide (((start+(k+1):Nat):Int)<=(start:Int))=false:=YR (by omega)
    rw[this];rfl
   simp only[h1,Bool.false_eq_true,if_false]
   rw[List.take_succ_cons]
   congr 1
   have:=ih k (by simpa using hk) (start+1)
   rw[<-this]
   refine Zhy λxk hxk=>?_
   have e1:((start+(k+1):Nat):Int)=((start+1+k:Nat):Int):=by omega
   have e2:((start+(x::r).length:Nat):Int)=((start+1+r.length:Nat):Int):=by simp;omega
   rw[e1,e2]
section
variable {X:Cx}{e st:Expr}{te ts:TE}{pos pos1 p2:Pos}
noncomputable def tDelT (te ts:TE):TS:=λD σ H=>te σ H λx H1=>ts σ H1 λz H2=>∃(l:Addr) (xs:List V) (k:Nat),x=.ref l/\z=.int k/\H2 l=some (.lst xs)/\k<=xs.length/\D.nx σ (upd H2 l (.lst (xs.take k)))
theorem Zlr (he:PE X e te) (hs:PE X st ts):PS X (.Delete [.Subscript e (.Slice (some st) none none p2) pos1] pos) (tDelT te ts):=by
 intro pins s σ H D I h
 refine wpAny_Delete (wpAny_deleteEach_cons ?_)
 show wpAny _ _ (eval e X.env >>= λov=>holding [ov] (eval (.Slice (some st) none none p2) X.env) >>= λiv=>(do standAt pos1;holding [ov,iv] (delItem ov iv);release [ov,iv] [])) _ _ _
 refine Ya (thn (he pins s σ H _ I h) λv s1 ⟨x,H1,I1,r1,q1⟩=>?_)
 refine Ya (wpAny_holding ?_)
 refine wpAny_Slice ?_
 rw[evalPart_some]
 refine thn (hs pins s1 σ H1 _ I1 q1) λvs s2 ⟨z,H2,I2,r2,l,xs,k,e1,e2,hx,hk,q⟩=>?_
 subst e1 e2
 obtain⟨tk,rfl⟩:=r2
 cases r1
 rw[evalPart_none]
 refine Ye ?_
 refine Ye ?_
 have I4:Inv X pins σ H2 {s2 with heap:=s2.heap.push {cls:=.type "slice",data:=.fields #[.int k tk,.none,.none]}}:=I2.kept (t':=s2.toks) λb ob q=>Yk _ q
 have hsl:({s2 with heap:=s2.heap.push {cls:=.type "slice",data:=.fields #[.int k tk,.none,.none]}}:Shared).heap.get? s2.heap.objs.size=some {cls:=.type "slice",data:=.fields #[.int k tk,.none,.none]}:=Yp _ rfl
 obtain⟨z,its,n,r,hlen,hob⟩:=I4.ZmN hx
 generalize ({s2 with heap:=s2.heap.push {cls:=.type "slice",data:=.fields #[.int k tk,.none,.none]}}:Shared)=s4 at I4 hsl hob⊢
 have hT:s4.TypeIs (.ref l) "list":=⟨_,hob,rfl⟩
 have hTs:s4.TypeIs (.ref s2.heap.objs.size) "slice":=⟨_,hsl,rfl⟩
 refine Ya (wpAny_standAt (Ya (wpAny_holding ?_)))
 refine wpAny_delItem_slot hT (by decide) F.slot_list_delitem (wpAny_call_entry F.slot_list_delitem hT F.entry_list_delitem ?_ (F.args_list_delitem_2 _ _))
 show wpAny _ _ (Builtin.List.listSubscript? (.ref s2.heap.objs.size) >>= _) _ _ s4
 refine Ya ?_;unfold Builtin.List.listSubscript?;refine Ya (wpAny_specialOf hTs slice_no_index ?_)
 simp only[Option.isNone_none,if_true];refine Ye ?_
 show wpAny _ _ (typeOf (.ref s2.heap.objs.size) >>= _) _ _ s4
 refine Ya (wpAny_typeOf hTs ?_);rw[Yb (by decide),listSliceParts_eq]
 refine Ya (Ya (wpAny_field hsl rfl (x:=.none) rfl (Ya (wpAny_listPart (k:=none) .none ?_))));rw[Yb (show ¬ ((rawPart none==rawInt 0)=true)from Yw)]
 refine Ya (wpAny_field hsl rfl (x:=.int k tk) rfl (Ya (wpAny_listPart (.int (k:Int) tk) ?_)))
 refine Ya (wpAny_field hsl rfl (x:=.none) rfl (Ya (wpAny_listPart (k:=none) .none (Ye ?_))))
 refine Ya (m:=Builtin.List.listItems (.ref l)) ?_;unfold Builtin.List.listItems
 refine Ya (wpAny_seqItems hob rfl (Ye ?_));refine Ya (wpAny_of_eq (sliceIndices_raw (some (k:Int)) none none its.toArray.size (by simp)) (Ya (wpAny_rule ?_)))
 have hb:sliceBounds (some (k:Int)) none none its.toArray.size=((k:Int),((its.length:Nat):Int),1):=by
  unfold sliceBounds
  simp
  omega
 rw[hb]
 have hf:∀f:Array Value->Array Value,(∀ys:Array Value,f ys=(ys.toList.zipIdx.filterMap λxk=>if (decide ((k:Int)<=(xk.2:Int))&&decide ((xk.2:Int)<((its.length:Nat):Int))&&(((xk.2:Int)-(k:Int)) % 1==0))=true then none else some xk.1).toArray)->f its.toArray=(its.take k).toArray:=λf h=>by
  rw[h]
  congr 1
  have:=Zm0 its k (by omega) 0
  simpa using this
 refine Ya (m:=updateSeq l _) ?_
 refine wpAny_updateSeq (n:=n) hob rfl ?_ (by rw[Yt];omega) ?_
 ·refine Ya (wpAny_letGo (Ye ⟨_,rfl,?_⟩))
  refine wpAny_release (wpAny_deleteEach_nil ⟨σ,_,I4.lset hx hob (hf _ λys=>rfl) (r.takeN k) ?_,q⟩)
  rw[YX];omega
 ·rw[Yt]
  refine Yf (List.length_filterMap_le _ _) ?_
  rw[List.length_zipIdx]
  show its.length<=sizeLine+1
  omega
end
theorem ZU.unique {f:Nat->Int}{p q q':Nat} (h:ZU f p q) (k:ZU f p q'):q=q':=by
 rcases Nat.lt_trichotomy q q' with z|z|z
 ·have:=h.2.2 q' z k.1;have:=k.2.1;omega
 ·exact z
 ·have:=k.2.2 q z h.1;have:=h.2.1;omega
theorem ZO.unique {f:Nat->Int}{n p r r':Nat} (h:ZO f n p r) (k:ZO f n p r'):r=r':=by
 rcases Nat.lt_trichotomy r r' with z|z|z
 ·have:=k.2.2.2 r h.1 z;have:=h.2.2.1;omega
 ·exact z
 ·have:=h.2.2.2 r' k.1 z;have:=k.2.2.1;omega
theorem ZU.no {f:Nat->Int}{p q:Nat} (h:ZU f p q) (k:ZaP f p):False:=by have:=k q h.1;have:=h.2.1;omega
theorem ZO.no {f:Nat->Int}{n p r:Nat} (h:ZO f n p r) (k:Zaw f n p):False:=by have:=k r h.1 h.2.1;have:=h.2.2.1;omega
theorem Zy.unique {f:Nat->Int}{n p:Nat}{e e':Int} (h:Zy f n p e) (k:Zy f n p e'):e=e':=by
 rcases h with⟨h1,h2,h3⟩|⟨q,h1,h2,h3⟩|⟨r,h1,h2,h3⟩|⟨q,r,h1,h2,h3⟩ <;>
 rcases k with⟨k1,k2,k3⟩|⟨q',k1,k2,k3⟩|⟨r',k1,k2,k3⟩|⟨q',r',k1,k2,k3⟩
 ·rw[h3,k3]
 ·exact(k1.no h1).elim
 ·exact(k2.no h2).elim
 ·exact(k1.no h1).elim
 ·exact(h1.no k1).elim
 ·rw[h3,k3,h1.unique k1]
 ·exact(h1.no k1).elim
 ·exact(k2.no h2).elim
 ·exact(h2.no k2).elim
 ·exact(k1.no h1).elim
 ·rw[h3,k3,h2.unique k2]
 ·exact(k1.no h1).elim
 ·exact(h1.no k1).elim
 ·exact(h2.no k2).elim
 ·exact(h1.no k1).elim
 ·rw[h3,k3,h1.unique k1,h2.unique k2]
noncomputable def Zi (ns:List Int) (es:List Int):Prop:=es.length=ns.length/\∀p,p<ns.length->Zy (nth ns) ns.length p (es.getD p 0)
theorem Zi.unique {ns es es':List Int} (h:Zi ns es) (k:Zi ns es'):es=es':=by
 refine List.ext_getElem (by rw[h.1,k.1]) λj h1 h2=>?_
 have hj:j<ns.length:=by rw[<-h.1];exact h1
 have:=(h.2 j hj).unique (k.2 j hj)
 simpa[Yg,h1,h2]using this
theorem ZgA {f:Nat->Int}{n p:Nat} (hp:p<n):Zy f n p
  (match ((List.range p).filter λq=>decide (f q<=f p)).getLast?,((List.range (n-(p+1))).filter λj=>decide (f (p+1+j)<f p)).head? with
   |none,none=>-1
   |none,some j=>((p+1+j:Nat):Int)
   |some q,none=>q
   |some q,some j=>if f q<=f (p+1+j)then ((p+1+j:Nat):Int)else q):=by
 have hA:(((List.range p).filter λq=>decide (f q<=f p)).getLast?=none/\ZaP f p)\/∃q,((List.range p).filter λq=>decide (f q<=f p)).getLast?=some q/\ZU f p q:=by
  induction p with
  |zero=>exact .inl ⟨rfl,λq hq=>by omega⟩
  |succ p _ =>
   generalize p+1=P
   have key:∀m,m<=P->(((List.range m).filter λq=>decide (f q<=f P)).getLast?=none/\∀q,q<m->f P<f q)\/∃q,((List.range m).filter λq=>decide (f q<=f P)).getLast?=some q/\q<m/\f q<=f P/\∀r,q<r->r<m->f P<f r:=by
    intro m
    induction m with
    |zero=>intro _;exact .inl ⟨rfl,λq hq=>by omega⟩
    |succ m ih =>
     intro hm
     rw[YJ,List.filter_append]
     by_cases hle:f m<=f P
     ·refine .inr ⟨m,?_,by omega,hle,λr r1 r2=>by omega⟩
      simp[hle]
     ·have e:List.filter (λq=>decide (f q<=f P)) [m]=[]:=by simp[hle]
      rw[e,List.append_nil]
      rcases ih (by omega)with⟨i1,i2⟩|⟨q,i1,i2,i3,i4⟩
      ·refine .inl ⟨i1,λq hq=>?_⟩
       by_cases z:q=m
       ·rw[z];omega
       ·exact i2 q (by omega)
      ·refine .inr ⟨q,i1,by omega,i3,λr r1 r2=>?_⟩
       by_cases z:r=m
       ·rw[z];omega
       ·exact i4 r r1 (by omega)
   rcases key P (Yd _)with⟨i1,i2⟩|⟨q,i1,i2,i3,i4⟩
   ·exact .inl ⟨i1,i2⟩
   ·exact .inr ⟨q,i1,i2,i3,i4⟩
 have hB:(((List.range (n-(p+1))).filter λj=>decide (f (p+1+j)<f p)).head?=none/\Zaw f n p)\/∃j,((List.range (n-(p+1))).filter λj=>decide (f (p+1+j)<f p)).head?=some j/\ZO f n p (p+1+j):=by
  have key:∀m,(((List.range m).filter λj=>decide (f (p+1+j)<f p)).head?=none/\∀j,j<m->f p<=f (p+1+j))\/∃j,((List.range m).filter λj=>decide (f (p+1+j)<f p)).head?=some j/\j<m/\f (p+1+j)<f p/\∀i,i<j->f p<=f (p+1+i):=by
   intro m
   induction m with
   |zero=>exact .inl ⟨rfl,λq hq=>by omega⟩
   |succ m ih =>
    rw[YJ,List.filter_append]
    rcases ih with⟨i1,i2⟩|⟨j,i1,i2,i3,i4⟩
    ·have e0:List.filter (λj=>decide (f (p+1+j)<f p)) (List.range m)=[]:=List.head?_eq_none_iff.mp i1
     rw[e0,List.nil_append]
     by_cases hlt:f (p+1+m)<f p
     ·refine .inr ⟨m,by simp[hlt],by omega,hlt,λi hi=>i2 i hi⟩
     ·refine .inl ⟨by simp[hlt],λj hj=>?_⟩
      by_cases z:j=m
      ·rw[z];omega
      ·exact i2 j (by omega)
    ·refine .inr ⟨j,?_,by omega,i3,i4⟩
     rw[List.head?_append,i1];rfl
  rcases key (n-(p+1))with⟨i1,i2⟩|⟨j,i1,i2,i3,i4⟩
  ·refine .inl ⟨i1,λr r1 r2=>?_⟩
   have:=i2 (r-(p+1)) (by omega)
   have e:p+1+(r-(p+1))=r:=by omega
   rw[e]at this;exact this
  ·refine .inr ⟨j,i1,by omega,by omega,i3,λs s1 s2=>?_⟩
   have:=i4 (s-(p+1)) (by omega)
   have e:p+1+(s-(p+1))=s:=by omega
   rw[e]at this;exact this
 rcases hA with⟨a1,a2⟩|⟨q,a1,a2⟩<;>rcases hB with⟨b1,b2⟩|⟨j,b1,b2⟩<;>rw[a1,b1]
 ·exact .inl ⟨a2,b2,rfl⟩
 ·exact .inr (.inr (.inl ⟨_,a2,b2,rfl⟩))
 ·exact .inr (.inl ⟨_,a2,b2,rfl⟩)
 ·exact .inr (.inr (.inr ⟨_,_,a2,b2,rfl⟩))
end L2
namespace L2
noncomputable def Over (f:Nat->Int) (o p:Nat):Prop:=(o<p/\∀r,o<r->r<=p->f o<=f r)\/(p<o/\∀r,p<=r->r<o->f o<f r)
theorem Over.irrefl {f:Nat->Int}{p:Nat}:¬ Over f p p:=by rintro(⟨h,_⟩|⟨h,_⟩)<;>omega
theorem Over.ne {f:Nat->Int}{o p:Nat} (h:Over f o p):o≠p:=λz=>Over.irrefl (z▸h)
theorem Over.trans {f:Nat->Int}{o e p:Nat} (h:Over f o e) (k:Over f e p):Over f o p:=by
 rcases h with⟨h1,h2⟩|⟨h1,h2⟩<;>rcases k with⟨k1,k2⟩|⟨k1,k2⟩
 ·refine .inl ⟨by omega,λr r1 r2=>?_⟩
  by_cases z:r<=e
  ·exact h2 r r1 z
  ·have:=k2 r (by omega) r2;have:=h2 e h1 (Yd _);omega
 ·have he:=h2 e h1 (Yd _)
  rcases Nat.lt_trichotomy o p with z|z|z
  ·exact .inl ⟨z,λr r1 r2=>h2 r r1 (by omega)⟩
  ·have:=k2 p (Yd _) k1;subst z;omega
  ·exact .inr ⟨z,λr r1 r2=>by have:=k2 r r1 (by omega);omega⟩
 ·have he:=h2 e (Yd _) h1
  rcases Nat.lt_trichotomy o p with z|z|z
  ·exact .inl ⟨z,λr r1 r2=>by have:=k2 r (by omega) r2;omega⟩
  ·have:=k2 p k1 (Yd _);subst z;omega
  ·exact .inr ⟨z,λr r1 r2=>h2 r (by omega) r2⟩
 ·refine .inr ⟨by omega,λr r1 r2=>?_⟩
  by_cases z:r<e
  ·have:=k2 r r1 z;have:=h2 e (Yd _) h1;omega
  ·exact h2 r (by omega) r2
theorem ZbQ {f:Nat->Int}{n p:Nat}{e:Int} (hp:p<n) (h:Zy f n p e):e=-1\/∃q:Nat,e=q/\q<n/\Over f q p:=by
 have pv:∀q,ZU f p q->Over f q p:=λq h=>.inl ⟨h.1,λr r1 r2=>by
  by_cases z:r=p
  ·rw[z];exact h.2.1
  ·have:=h.2.2 r r1 (by omega);have:=h.2.1;omega⟩
 have nx:∀q,ZO f n p q->Over f q p:=λq h=>.inr ⟨h.1,λr r1 r2=>by
  by_cases z:r=p
  ·rw[z];exact h.2.2.1
  ·have:=h.2.2.2 r (by omega) r2;have:=h.2.2.1;omega⟩
 rcases h with⟨_,_,h⟩|⟨q,h1,_,h⟩|⟨r,_,h1,h⟩|⟨q,r,h1,h2,h⟩
 ·exact .inl h
 ·exact .inr ⟨q,h,by have:=h1.1;omega,pv q h1⟩
 ·exact .inr ⟨r,h,h1.2.1,nx r h1⟩
 ·by_cases z:f q<=f r
  ·rw[Yc z]at h;exact .inr ⟨r,h,h2.2.1,nx r h2⟩
  ·rw[Yb z]at h;exact .inr ⟨q,h,by have:=h1.1;omega,pv q h1⟩
theorem ZiP {f:Nat->Int}{n p o:Nat}{e:Int} (hp:p<n) (ho:o<n) (h:Zy f n p e) (hO:Over f o p):∃q:Nat,e=q/\q<n/\(o=q\/Over f o q):=by
 rcases hO with⟨o1,o2⟩|⟨o1,o2⟩
 ·have op:=o2 p o1 (Yd _)
  have pv:∀q,ZU f p q->o=q\/(o<q/\Over f o q/\f o<=f q):=λq h=>by
   rcases Nat.lt_trichotomy o q with z|z|z
   ·have:=h.1;exact .inr ⟨z,.inl ⟨z,λr r1 r2=>o2 r r1 (by omega)⟩,o2 q z (by omega)⟩
   ·exact .inl z
   ·have:=h.2.2 o z o1;omega
  rcases h with⟨h1,_,h⟩|⟨q,h1,_,h⟩|⟨r,h1,_,h⟩|⟨q,r,h1,h2,h⟩
  ·have:=h1 o o1;omega
  ·refine⟨q,h,by have:=h1.1;omega,?_⟩
   rcases pv q h1 with z|z
   ·exact .inl z
   ·exact .inr z.2.1
  ·have:=h1 o o1;omega
  ·by_cases z:f q<=f r
   ·rw[Yc z]at h
    refine⟨r,h,h2.2.1,.inr (.inl ⟨by have:=h2.1;omega,λs s1 s2=>?_⟩)⟩
    by_cases sp:s<=p
    ·exact o2 s s1 sp
    ·by_cases sr:s=r
     ·rw[sr]
      rcases pv q h1 with y|y
      ·rw[y];exact z
      ·have:=y.2.2;omega
     ·have:=h2.2.2.2 s (by omega) (by omega);omega
   ·rw[Yb z]at h
    refine⟨q,h,by have:=h1.1;omega,?_⟩
    rcases pv q h1 with z|z
    ·exact .inl z
    ·exact .inr z.2.1
 ·have op:=o2 p (Yd _) o1
  have nx:∀r,ZO f n p r->o=r\/(r<o/\Over f o r/\f o<f r):=λr h=>by
   rcases Nat.lt_trichotomy o r with z|z|z
   ·have:=h.2.2.2 o o1 z;omega
   ·exact .inl z
   ·have:=h.1;exact .inr ⟨z,.inr ⟨z,λs s1 s2=>o2 s (by omega) s2⟩,o2 r (by omega) z⟩
  rcases h with⟨_,h1,h⟩|⟨q,_,h1,h⟩|⟨r,_,h1,h⟩|⟨q,r,h1,h2,h⟩
  ·have:=h1 o o1 ho;omega
  ·have:=h1 o o1 ho;omega
  ·refine⟨r,h,h1.2.1,?_⟩
   rcases nx r h1 with z|z
   ·exact .inl z
   ·exact .inr z.2.1
  ·by_cases z:f q<=f r
   ·rw[Yc z]at h
    refine⟨r,h,h2.2.1,?_⟩
    rcases nx r h2 with z|z
    ·exact .inl z
    ·exact .inr z.2.1
   ·rw[Yb z]at h
    refine⟨q,h,by have:=h1.1;omega,.inr (.inr ⟨by have:=h1.1;omega,λs s1 s2=>?_⟩)⟩
    by_cases sp:p<=s
    ·exact o2 s sp s2
    ·by_cases sq:s=q
     ·rw[sq]
      rcases nx r h2 with y|y
      ·rw[y];omega
      ·have:=y.2.2;omega
     ·have:=h1.2.2 s (by omega) (by omega);omega
theorem Zhz {f:Nat->Int}{n p o q:Nat} (hp:p<n) (ho:o<n) (h:Zy f n p (q:Int)):Over f o p↔o=q\/Over f o q:=by
 refine⟨λk=>?_,λk=>?_⟩
 ·obtain⟨q',e,_,z⟩:=ZiP hp ho h k
  have:q'=q:=by omega
  rw[this]at z;exact z
 ·rcases ZbQ hp h with z|⟨q',e,_,z⟩
  ·omega
  ·have:q'=q:=by omega
   rw[this]at z
   rcases k with k|k
   ·rw[k];exact z
   ·exact k.trans z
theorem Zew {f:Nat->Int}{n p o:Nat} (hp:p<n) (ho:o<n) (h:Zy f n p (-1)):¬ Over f o p:=λk=>by
 obtain⟨q',e,_,z⟩:=ZiP hp ho h k
 omega
theorem ZhA {P Q:Nat->Bool}:∀n,(∀o,o<n->P o=Q o)->(List.range n).countP P=(List.range n).countP Q
 |0,_=>rfl
 |n+1,h=>by
  rw[YJ,List.countP_append,List.countP_append,ZhA n (λo ho=>h o (by omega))]
  simp[List.countP_cons,h n (by omega)]
theorem ZcP {P Q:Nat->Bool}{e:Nat}:∀n,e<n->(∀o,o<n->(P o=true↔o=e\/Q o=true))->Q e=false->(List.range n).countP P=(List.range n).countP Q+1
 |0,h,_,_=>by omega
 |n+1,h,hi,hq=>by
  rw[YJ,List.countP_append,List.countP_append]
  by_cases z:e=n
  ·have e1:(List.range n).countP P=(List.range n).countP Q:=ZhA n λo ho=>by
    have:=hi o (by omega)
    cases hP:P o<;>cases hQ:Q o<;>simp[hP,hQ]at this<;>first|rfl|omega
   have hPn:P n=true:=(hi n (by omega)).mpr (.inl z.symm)
   rw[z]at hq
   rw[e1];simp[List.countP_cons,hPn,hq]
  ·rw[ZcP n (by omega) (λo ho=>hi o (by omega)) hq]
   have:=hi n (by omega)
   have hn:P n=Q n:=by
    cases hP:P n<;>cases hQ:Q n<;>simp[hP,hQ]at this<;>first|rfl|omega
   simp[List.countP_cons,hn];omega
theorem Zoo {P:Nat->Bool}{e n:Nat} (he:e<n) (h:P e=false):(List.range n).countP P<n:=by
 have h1:=ZcP (P:=λo=>decide (o=e)||P o) (Q:=P) n he (λo _=>by simp) h
 have h2:=List.countP_le_length (p:=λo=>decide (o=e)||P o) (l:=List.range n)
 rw[h1,Y4]at h2
 omega
noncomputable def Zaf (T:List Int):Nat->Int->List Nat
 |0,_=>[]
 |k+1,at_=>if 0<=at_/\at_<T.length then at_.toNat::Zaf T k (nth T at_.toNat)else []
open Classical in
noncomputable def dep (f:Nat->Int) (n p:Nat):Nat:=(List.range n).countP λo=>decide (Over f o p)
theorem Zjv {f:Nat->Int}{n p:Nat} (hp:p<n):dep f n p<n:=by
 classical
 exact Zoo hp (by simpa using Over.irrefl)
theorem Zf5 {f:Nat->Int}{n p q:Nat} (hp:p<n) (h:Zy f n p (q:Int)):dep f n p=dep f n q+1:=by
 classical
 have hq:q<n:=by
  rcases ZbQ hp h with z|⟨q',e,z,_⟩<;>omega
 exact ZcP n hq (λo ho=>by simpa using Zhz hp ho h) (by simpa using Over.irrefl)
theorem Zqt {f:Nat->Int}{n p:Nat} (hp:p<n) (h:Zy f n p (-1)):dep f n p=0:=by
 classical
 unfold dep
 rw[List.countP_eq_zero]
 intro o ho
 simpa using Zew hp (by simpa using ho) h
theorem ZhB {P Q:Nat->Bool}:∀n,(∀o,o<n->P o=true->Q o=true)->(List.range n).countP P<=(List.range n).countP Q
 |0,_=>Yd _
 |n+1,h=>by
  rw[YJ,List.countP_append,List.countP_append]
  have:=ZhB n (λo ho=>h o (by omega))
  have hn:=h n (by omega)
  cases hP:P n<;>cases hQ:Q n<;>simp[List.countP_cons,hP,hQ]at hn⊢<;>omega
theorem Zop {f:Nat->Int}{n p q:Nat} (hp:p<n) (hq:q<n) (h:Over f q p):dep f n q<dep f n p:=by
 classical
 have h1:=ZcP (P:=λo=>decide (o=q)||decide (Over f o q)) (Q:=λo=>decide (Over f o q)) (e:=q) n hq (λo _=>by simp) (by simpa using Over.irrefl)
 have h2:=ZhB (P:=λo=>decide (o=q)||decide (Over f o q)) (Q:=λo=>decide (Over f o p)) n (λo _ ho=>by
  simp at ho⊢
  rcases ho with z|z
  ·rw[z];exact h
  ·exact z.trans h)
 rw[h1]at h2
 exact h2
theorem Zdx {ns T:List Int} (hT:Zi ns T):∀k p,p<ns.length->dep (nth ns) ns.length p<=k->(∀o,o∈Zaf T k (nth T p)↔o<ns.length/\Over (nth ns) o p)/\(Zaf T k (nth T p)).length=dep (nth ns) ns.length p
 |k,p,hp,hk=>by
  have hE:Zy (nth ns) ns.length p (nth T p):=hT.2 p hp
  rcases ZbQ hp hE with z|⟨q,e,hq,hO⟩
  ·have e0:Zaf T k (nth T p)=[]:=by
    cases k with
    |zero=>rfl
    |succ k=>rw[Zaf,Yb (by omega)]
   rw[e0]
   rw[z]at hE
   exact⟨λo=>⟨λh=>by simp at h,λh=>absurd h.2 (Zew hp h.1 hE)⟩,by rw[Zqt hp hE];rfl⟩
  ·rw[e]at hE
   have hd:=Zf5 hp hE
   obtain⟨k',rfl⟩:∃k',k=k'+1:=⟨k-1,by omega⟩
   have ih:=Zdx hT k' q hq (by omega)
   have eT:((q:Nat):Int).toNat=q:=by omega
   rw[Zaf,e,Yc ⟨by omega,by rw[hT.1];omega⟩,eT]
   refine⟨λo=>?_,by simp[ih.2,hd]⟩
   rw[Yo,ih.1 o]
   refine⟨λh=>?_,λh=>?_⟩
   ·rcases h with h|h
    ·rw[h];exact⟨hq,hO⟩
    ·exact⟨h.1,h.2.trans hO⟩
   ·rcases(Zhz hp h.1 hE).mp h.2 with z|z
    ·exact .inl z
    ·exact .inr ⟨h.1,z⟩
noncomputable def ZeU (T:List Int):List Int:=(List.range T.length).map λp=>((Zaf T T.length (nth T p)).length:Int)
theorem Zft (T:List Int):(ZeU T).length=T.length:=by simp[ZeU]
theorem Zkr {T:List Int}{p:Nat} (h:p<T.length):nth (ZeU T) p=(Zaf T T.length (nth T p)).length:=by
 simp[nth,ZeU,Yg,h]
theorem Zm1 {ns T:List Int} (hT:Zi ns T):Zi (ZeU T) T:=by
 have eL:T.length=ns.length:=hT.1
 have hd:∀p,p<ns.length->nth (ZeU T) p=(dep (nth ns) ns.length p:Int):=λp hp=>by
  rw[Zkr (by omega),eL,(Zdx hT ns.length p hp (YH (Zjv hp))).2]
 refine⟨(Zft T).symm,λp hp=>?_⟩
 rw[Zft,eL]at hp⊢
 have lt:∀q p,q<ns.length->p<ns.length->Over (nth ns) q p->nth (ZeU T) q<nth (ZeU T) p:=λq p hq hp h=>by
  rw[hd q hq,hd p hp]
  have:=Zop hp hq h;omega
 generalize nth (ZeU T)=g at lt
 clear hd
 have pv:∀q,ZU (nth ns) p q->ZU g p q:=λq h=>by
  refine⟨h.1,Int.le_of_lt (lt q p (by have:=h.1;omega) hp (.inl ⟨h.1,λr r1 r2=>?_⟩)),λr r1 r2=>lt p r hp (by omega) (.inr ⟨r2,λs s1 s2=>h.2.2 s (by omega) s2⟩)⟩
  by_cases z:r=p
  ·rw[z];exact h.2.1
  ·have:=h.2.2 r r1 (by omega);have:=h.2.1;omega
 have nx:∀r,ZO (nth ns) ns.length p r->ZO g ns.length p r:=λq h=>by
  refine⟨h.1,h.2.1,lt q p h.2.1 hp (.inr ⟨h.1,λr r1 r2=>?_⟩),λs s1 s2=>Int.le_of_lt (lt p s hp (by have:=h.2.1;omega) (.inl ⟨s1,λr r1 r2=>h.2.2.2 r r1 (by omega)⟩))⟩
  by_cases z:r=p
  ·rw[z];exact h.2.2.1
  ·have:=h.2.2.2 r (by omega) r2;have:=h.2.2.1;omega
 have np:ZaP (nth ns) p->ZaP g p:=λh q hq=>lt p q hp (by omega) (.inr ⟨hq,λr r1 r2=>h r r2⟩)
 have nn:Zaw (nth ns) ns.length p->Zaw g ns.length p:=λh r r1 r2=>Int.le_of_lt (lt p r hp r2 (.inl ⟨r1,λs s1 s2=>h s s1 (by omega)⟩))
 have hE:Zy (nth ns) ns.length p (T.getD p 0):=hT.2 p hp
 rcases hE with⟨h1,h2,h⟩|⟨q,h1,h2,h⟩|⟨r,h1,h2,h⟩|⟨q,r,h1,h2,h⟩
 ·exact .inl ⟨np h1,nn h2,h⟩
 ·exact .inr (.inl ⟨q,pv q h1,nn h2,h⟩)
 ·exact .inr (.inr (.inl ⟨r,np h1,nx r h2,h⟩))
 ·refine .inr (.inr (.inr ⟨q,r,pv q h1,nx r h2,?_⟩))
  rw[h]
  have hq:q<ns.length:=by have:=h1.1;omega
  by_cases z:nth ns q<=nth ns r
  ·have:=lt q r hq h2.2.1 (.inl ⟨by have:=h1.1;have:=h2.1;omega,λs s1 s2=>by
    by_cases y:s=r
    ·rw[y];exact z
    ·by_cases y2:s=p
     ·rw[y2];exact h1.2.1
     ·have:=h1.2.1
      by_cases y3:s<p
      ·have:=h1.2.2 s s1 y3;omega
      ·have:=h2.2.2.2 s (by omega) (by omega);omega⟩)
   rw[Yc z,Yc (by omega)]
  ·have:=lt r q h2.2.1 hq (.inr ⟨by have:=h1.1;have:=h2.1;omega,λs s1 s2=>by
    have:=h1.2.1;have:=h2.2.2.1
    by_cases y:s=q
    ·rw[y];omega
    ·by_cases y2:s=p
     ·rw[y2];omega
     ·by_cases y3:s<p
      ·have:=h1.2.2 s (by omega) y3;omega
      ·have:=h2.2.2.2 s (by omega) (by omega);omega⟩)
   rw[Yb z,Yb (by omega)]
theorem Zm2 (T:List Int):(∃ns,Zi ns T)↔Zi (ZeU T) T:=⟨λ⟨_,h⟩=>Zm1 h,λh=>⟨_,h⟩⟩
end L2
namespace L2
open PySem PySem.Spec PyProof.Rows PySem.W
noncomputable def Zbq (es:List Int) (A B:List Nat) (i:Nat):List Int:=match A.getLast? with
 |some q=>(match B.head? with|some b=>es.set b i|none=>es).set i (q:Int)
 |none=>match B.head? with|some b=>es.set b i|none=>es
noncomputable def Zr (l:List Nat):List V:=l.map λq=>V.int (q:Nat)
theorem Zfu (l:List Int) (a p:Nat) (v:Int) (h:p<l.length):(l.set a v).getD p 0=if a=p then v else l.getD p 0:=by
 rw[Yg,Yg]
 by_cases e:a=p
 ·subst e;rw[Yc rfl,List.getElem?_set_self h];rfl
 ·rw[Yb e,List.getElem?_set_ne e]
theorem Zfv (es:List Int) (A B:List Nat) (i:Nat):(Zbq es A B i).length=es.length:=by
 unfold Zbq
 cases A.getLast?<;>cases B.head?<;>simp
theorem Zex (es:List Int) (A B:List Nat) (i p:Nat) (hp:p<es.length) (hb:∀b,B.head?=some b->b≠i):(Zbq es A B i).getD p 0=if p=i then (match A.getLast? with|some q=>(q:Int)|none=>es.getD i 0)else if B.head?=some p then (i:Int)else es.getD p 0:=by
 unfold Zbq
 cases hA:A.getLast? with
 |none =>
  cases hB:B.head? with
  |none =>
   by_cases e:p=i
   ·rw[Yc e,e]
   ·rw[Yb e,Yb (by simp)]
  |some b =>
   show(es.set b i).getD p 0=_
   rw[Zfu _ _ _ _ hp]
   by_cases e:p=i
   ·rw[Yc e,Yb (by rw[e];exact hb b hB),e]
   ·rw[Yb e]
    by_cases e2:b=p
    ·rw[Yc e2,Yc (by rw[e2])]
    ·rw[Yb e2,Yb (by intro z;exact e2 (Yy z))]
 |some q =>
  cases hB:B.head? with
  |none =>
   show(es.set i q).getD p 0=_
   rw[Zfu _ _ _ _ hp]
   by_cases e:p=i
   ·rw[Yc e,Yc e.symm]
   ·rw[Yb e,Yb (λz=>e z.symm),Yb (by simp)]
  |some b =>
   show((es.set b i).set i q).getD p 0=_
   rw[Zfu _ _ _ _ (by simpa using hp),Zfu _ _ _ _ hp]
   by_cases e:p=i
   ·rw[Yc e,Yc e.symm]
   ·rw[Yb e,Yb (λz=>e z.symm)]
    by_cases e2:b=p
    ·rw[Yc e2,Yc (by rw[e2])]
    ·rw[Yb e2,Yb (by intro z;exact e2 (Yy z))]
theorem Zls:∀(l:List Nat) (i lo:Nat),l.Pairwise (· < ·)->(∀q∈l,lo<=q/\q<i)->l.length+lo<=i\/l=[]
 |[],_,_,_,_=>.inr rfl
 |q::r,i,lo,h,hq=>by
  have h1:=hq q (by simp)
  have hr:=Y7.mp h
  rcases Zls r i (q+1) hr.2 (λx hx=>⟨hr.1 x hx,(hq x (by simp[hx])).2⟩)with z|z
  ·left;simp;omega
  ·left;rw[z];simp;omega
theorem ZV (l:List Nat):(Zr l).length=l.length:=by simp[Zr]
theorem ZbL (a b:List Nat):Zr (a++b)=Zr a++Zr b:=by simp[Zr]
theorem ZhC {l:List Nat}{j q:Nat} (h:l[j]?=some q):atI (Zr l) (j:Int)=some (V.int (q:Nat)):=by
 have hj:=(Yr.mp h).1
 have e:=(Yr.mp h).2
 rw[Zhv rfl (by rw[ZV];exact hj)]
 simp[Zr,e]
theorem Zhd {n j:Nat} (h:j<n):ixN n (j:Int)=some j:=by
 unfold ixN
 rw[Yc (by omega),Yc (by omega)];simp
noncomputable def wayI (T:List Int) (p:Nat):List Int:=(Zaf T T.length (nth T p)).map λq=>((q:Nat):Int)
noncomputable def Zbb (T:List Int):Prop:=T.length<=40/\∃ns,Zi ns T
theorem Zfw (T:List Int):∀k a,(Zaf T k a).length<=k
 |0,_=>by simp[Zaf]
 |k+1,a=>by
  rw[Zaf]
  split
  ·have:=Zfw T k (nth T a.toNat);simp;omega
  ·simp
noncomputable def ZaO (T:List Int):Nat->Int->Int
 |0,a=>a
 |j+1,a=>if 0<=a/\a<T.length then ZaO T j (nth T a.toNat)else a
theorem ZiQ (T:List Int):∀j a,0<=ZaO T j a->ZaO T j a<T.length->(Zaf T j a).length=j->Zaf T (j+1) a=Zaf T j a++[(ZaO T j a).toNat]/\ZaO T (j+1) a=nth T (ZaO T j a).toNat
 |0,a,h0,h1,_=>by
  have h0':0<=a:=h0
  have h1':a<T.length:=h1
  constructor
  ·simp[Zaf,ZaO,h0',h1']
  ·simp[ZaO,h0',h1']
 |j+1,a,h0,h1,hl=>by
  rw[Zaf]at hl
  by_cases z:0<=a/\a<T.length
  ·rw[Yc z]at hl
   have e1:ZaO T (j+1) a=ZaO T j (nth T a.toNat):=by rw[ZaO,Yc z]
   rw[e1]at h0 h1
   have ih:=ZiQ T j (nth T a.toNat) h0 h1 (by simpa using hl)
   constructor
   ·rw[Zaf,Yc z,ih.1,Zaf.eq_def T (j+1) a]
    simp only[Yc z,e1];simp
   ·rw[ZaO,Yc z,ih.2,e1]
  ·rw[Yb z]at hl;simp at hl
theorem ZiR (T:List Int):∀j k a,j<=k->(Zaf T j a).length=j->¬ (0<=ZaO T j a/\ZaO T j a<T.length)->Zaf T k a=Zaf T j a
 |0,k,a,_,_,h=>by
  have h':¬ (0<=a/\a<T.length):=h
  cases k with
  |zero=>rfl
  |succ k=>rw[show Zaf T 0 a=[]from rfl,Zaf,Yb h']
 |j+1,k,a,hk,hl,h=>by
  rw[Zaf]at hl
  by_cases z:0<=a/\a<T.length
  ·rw[Yc z]at hl
   rw[ZaO,Yc z]at h
   obtain⟨k',rfl⟩:∃k',k=k'+1:=⟨k-1,by omega⟩
   rw[Zaf,Yc z,ZiR T j k' _ (by omega) (by simpa using hl) h,Zaf,Yc z]
  ·rw[Yb z]at hl;simp at hl
theorem Zah {a b:TS}{D:Ends}{σ:St}{H:Hp} (Mid:St->Hp->Prop) (h1:∀R:St->Hp->Prop,(∀σ' H',Mid σ' H'->R σ' H')->a {D with nx:=R} σ H) (h2:∀σ' H',Mid σ' H'->b D σ' H'):tSeq a b D σ H:=h1 _ h2
theorem Zoq (xs:List V) (j:Nat):ZbW xs none (some (j:Int))=xs.take j:=by
 have h:¬ ((j:Int)<0):=by omega
 unfold ZbW HT.sIx
 simp only[Yb h,List.drop_zero,Nat.sub_zero]
 rw[List.take_eq_take_iff]
 omega
theorem Zm3 (xs:List V) (j:Nat):ZbW xs (some (j:Int)) none=xs.drop j:=by
 have h:¬ ((j:Int)<0):=by omega
 unfold ZbW HT.sIx
 simp only[Yb h,YZ]
 by_cases z:j<=xs.length
 ·rw[Nat.min_eq_left z]
  exact List.take_of_length_le (by rw[Ja];omega)
 ·rw[Nat.min_eq_right (by omega),Nat.sub_self,List.take_zero,List.drop_eq_nil_of_le (show xs.length<=j by omega)]
end L2
namespace L2
open PySem PySem.Spec PyProof.Rows
structure CellsOf (cl:List (Str×Addr)) (n0:Nat) (cs:List (Str×Addr)) (h0 h:Heap) (done:List (Str×NameKind)):Prop where
 old:∀b o,h0.get? b=some o->h.get? b=some o
 sz:n0<=h.objs.size
 mem:∀p∈cs,p∈cl\/(n0<=p.2/\p.2<h.objs.size/\h.IsCell p.2 none)
 inj:∀p∈cs,∀q∈cs,n0<=p.2->p.2=q.2->p.1=q.1
 own:∀y∈done,y.2=.cell->∃c,cs.lookup y.1=some c/\n0<=c
 oth:∀x,(∀y∈done,y.2=.cell->y.1≠x)->cs.lookup x=cl.lookup x
theorem Zf6 {M:Model}{A:Around}{E:Value->Shared->Prop}{cl:List (Str×Addr)}{n0:Nat}{h0:Heap} (hcl:∀p∈cl,p.2<n0):∀(names:List (Str×NameKind)) (cs:List (Str×Addr)) (done:List (Str×NameKind)) (s:Shared),CellsOf cl n0 cs h0 s.heap done ->
  wpAny M A (forIn names cs λ(x:Str×NameKind) (r:List (Str×Addr))=>(match x with
   |(name,kind)=>if (kind==NameKind.cell)=true then do
     let a <-alloc {cls:=.type "cell",data:=.cell none}
     pure (ForInStep.yield ((name,a)::r))
    else pure (ForInStep.yield r):Sem (ForInStep (List (Str×Addr))))) (λcs' s'=>∃h',s'={s with heap:=h'}/\CellsOf cl n0 cs' h0 h' (done++names)) E s
 |[],cs,done,s,I=>by
  rw[List.forIn_nil,List.append_nil]
  exact Ye ⟨s.heap,rfl,I⟩
 |(n,k)::r,cs,done,s,I=>by
  rw[List.forIn_cons]
  by_cases hk:k=.cell
  ·subst hk
   simp only[beq_self_eq_true,if_true]
   refine Ya (Ya (wpAny_alloc (Ye ?_)))
   have hget:(s.heap.push {cls:=.type "cell",data:=.cell none}).get? s.heap.objs.size=some {cls:=.type "cell",data:=.cell none}:=Yp _ rfl
   have I':CellsOf cl n0 ((n,s.heap.objs.size)::cs) h0 (s.heap.push {cls:=.type "cell",data:=.cell none}) (done++[(n,.cell)]):=by
    refine⟨λb o e=>Yk _ (I.old b o e),by rw[Heap.size_push];exact Nat.le_succ_of_le I.sz,λp hp=>?_,λp hp q hq hn e=>?_,λy hy hc=>?_,λx hx=>?_⟩
    ·rcases Yo.mp hp with z|z
     ·subst z
      exact .inr ⟨I.sz,by rw[Heap.size_push];exact Nat.lt_succ_self _,_,hget,rfl⟩
     ·rcases I.mem p z with w|⟨w1,w2,o,w3,w4⟩
      ·exact .inl w
      ·exact .inr ⟨w1,by rw[Heap.size_push];exact YL w2,o,Yk _ w3,w4⟩
    ·have lt:∀p∈cs,p.2<s.heap.objs.size:=λp hp=>by
      rcases I.mem p hp with w|w
      ·exact Yu (hcl p w) I.sz
      ·exact w.2.1
     rcases Yo.mp hp with z|z<;>rcases Yo.mp hq with z'|z'
     ·rw[z,z']
     ·subst z;exact absurd (show s.heap.objs.size<s.heap.objs.size from(show s.heap.objs.size=q.2 from e)▸lt q z') (YB _)
     ·subst z';exact absurd (show s.heap.objs.size<s.heap.objs.size from(show p.2=s.heap.objs.size from e)▸lt p z) (YB _)
     ·exact I.inj p z q z' hn e
    ·rcases Yz.mp hy with z|z
     ·obtain⟨c,e1,e2⟩:=I.own y z hc
      by_cases hx:y.1=n
      ·exact⟨s.heap.objs.size,by rw[hx];simp,I.sz⟩
      ·have hb:(y.1==n)=false:=by simpa using hx
       exact⟨c,by simp only[List.lookup_cons,hb];exact e1,e2⟩
     ·have:y=(n,.cell):=by simpa using z
      subst this
      exact⟨s.heap.objs.size,by simp,I.sz⟩
    ·have hxn:n≠x:=hx (n,.cell) (by simp) rfl
     have hb:(x==n)=false:=by simpa using hxn.symm
     simp only[List.lookup_cons,hb]
     exact I.oth x λy hy=>hx y (YN _ hy)
   refine thn (Zf6 hcl r _ _ {s with heap:=s.heap.push {cls:=.type "cell",data:=.cell none}} I') λcs' s' ⟨h',e1,e2⟩=>⟨h',e1,?_⟩
   rw[YT]at e2
   exact e2
  ·have e1:(k==NameKind.cell)=false:=by cases k<;>first|rfl|exact absurd rfl hk
   simp only[e1,Bool.false_eq_true,if_false]
   refine Ya (Ye ?_)
   have I':CellsOf cl n0 cs h0 s.heap (done++[(n,k)]):=by
    refine⟨I.old,I.sz,I.mem,I.inj,λy hy hc=>?_,λx hx=>I.oth x λy hy=>hx y (YN _ hy)⟩
    rcases Yz.mp hy with z|z
    ·exact I.own y z hc
    ·have:y=(n,k):=by simpa using z
     subst this
     exact absurd hc hk
   refine thn (Zf6 hcl r _ _ s I') λcs' s' ⟨h',e1,e2⟩=>⟨h',e1,?_⟩
   rw[YT]at e2
   exact e2
theorem Zlt {M:Model}{A:Around}{E:Value->Shared->Prop}{s:Shared}{scope:Scope}{globals:Addr}{cl:List (Str×Addr)}{qual:Str}{around:Env}{Q:Env->Shared->Prop} (hcl:∀p∈cl,p.2<s.heap.objs.size)
  (h:∀cs h',CellsOf cl (s.heap.objs.size+1) cs (s.heap.push {cls:=.type "dict",data:=.dict #[]}) h' scope.names->Q {scope:=scope,locals:=s.heap.objs.size,globals:=globals,cells:=cs,qual:=qual,func:=none,code:=around.code,frame:=around.frame,builtins:=around.builtins} {s with heap:=h'}) :
  wpAny M A (newFunctionEnv scope globals cl [] qual none .none (some around)) Q E s:=by
 unfold newFunctionEnv
 refine Ya (wpAny_alloc ?_)
 refine Ya (thn (Zf6 (cl:=cl) (n0:=s.heap.objs.size+1) (h0:=s.heap.push {cls:=.type "dict",data:=.dict #[]}) (λp hp=>YL (hcl p hp)) scope.names cl [] {s with heap:=s.heap.push {cls:=.type "dict",data:=.dict #[]}} ⟨λb o e=>e,by rw[Heap.size_push];exact Yd _,λp hp=>.inl hp,λp hp q hq hn e=>absurd (hcl p hp) (Nat.not_lt_of_le (Nat.le_of_succ_le hn)),λy hy=>(nomatch hy),λx hx=>rfl⟩) λcs s' ⟨h',e1,e2⟩=>?_)
 subst e1
 rw[List.nil_append]at e2
 exact Ya (Ye (Ye (h cs h' e2)))
noncomputable def Za4 (around scope:Scope):Bool :=
 scope.kind==.function&&around.kind==.function&&scope.names.all λy=>match y.2 with
  |.local=>scope.names.lookup y.1==some .local
  |.cell=>scope.names.lookup y.1==some .cell
  |.free=>(scope.names.lookup y.1==some .free)&&(around.names.lookup y.1==some .cell||around.names.lookup y.1==some .free)
  |_=>true
theorem Zfx {a s:Scope} (h:Za4 a s=true):s.kind=.function:=by
 simp only[Za4,Bool.and_eq_true,beq_iff_eq]at h;exact h.1.1
theorem ZeV {a s:Scope} (h:Za4 a s=true) {y:Str×NameKind} (hy:y∈s.names):(match y.2 with
  |.local=>s.names.lookup y.1==some .local
  |.cell=>s.names.lookup y.1==some .cell
  |.free=>(s.names.lookup y.1==some .free)&&(a.names.lookup y.1==some .cell||a.names.lookup y.1==some .free)
  |_=>true)=true:=by
 simp only[Za4,Bool.and_eq_true]at h
 exact List.all_eq_true.mp h.2 y hy
theorem Ziq {a s:Scope} (h:Za4 a s=true):∀y∈s.names,y.2=.local->s.names.lookup y.1=some .local:=λy hy e=>by
 have q:=ZeV h hy
 rw[e]at q
 exact beq_iff_eq.mp q
theorem Zjw {a s:Scope} (h:Za4 a s=true):∀y∈s.names,y.2=.cell->s.names.lookup y.1=some .cell:=λy hy e=>by
 have q:=ZeV h hy
 rw[e]at q
 exact beq_iff_eq.mp q
theorem ZcQ {a s:Scope} (h:Za4 a s=true):∀y∈s.names,y.2=.free->s.names.lookup y.1=some .free/\(a.names.lookup y.1=some .cell\/a.names.lookup y.1=some .free):=λy hy e=>by
 have q:=ZeV h hy
 rw[e]at q
 simp only[Bool.and_eq_true,Bool.or_eq_true,beq_iff_eq]at q
 exact q
noncomputable def ZaL (X:Cx) (Nc:List Str) (scope:Scope) (cs:List (Str×Addr)) (C:Addr) (s2:Shared) (H2:Hp) (fp:List Addr):Cx :=
 {Zn7 X Nc scope cs C s2 H2 fp with fn:=λx=>scope.names.lookup x==some .cell}
theorem Zks {env:Env}{scope:Scope} (h:∀y∈scope.names,y.2=.free->∃c,env.cells.lookup y.1=some c) :
  ∃cl,closureFor scope env=pure cl/\(∀p∈cl,env.cells.lookup p.1=some p.2)/\(∀y∈scope.names,y.2=.free->∃c,cl.lookup y.1=some c/\env.cells.lookup y.1=some c):=by
 obtain⟨cl,e,h1,h2,h3⟩:=ZcM (env:=env) scope.names [] h
 have up:∀p∈cl,env.cells.lookup p.1=some p.2:=λp q=>by
  rcases h1 _ q with z|z
  ·cases z
  ·exact z
 refine⟨cl,?_,up,λy hy hf=>?_⟩
 ·unfold closureFor
  simp only[bind_pure_comp]at e⊢
  rw[e]
  exact pure_bind _ _
 ·obtain⟨c,hc⟩:=h3 y hy hf
  cases q:cl.lookup y.1 with
  |none=>exact absurd (List.lookup_eq_none_iff.mp q _ hc) (by simp)
  |some c'=>exact⟨c',rfl,up _ (PySem.mem_of_lookup q)⟩
section
variable {X:Cx}
theorem Zkt {pins:List (Addr×Obj)}{σ:St}{H2:Hp}{s2:Shared}{Nc:List Str}{js:List (Option Nat)}{scope:Scope}{cs:List (Str×Addr)}{fp:List Addr}{h1:Heap}{tk:Nat}{D C:Addr}{oD:Obj}{m:Str->Option Value}
  (I:Inv X pins σ H2 s2) (hok:Za4 X.env.scope scope=true) (htk:takesC X.N Nc scope js 0=true) (up:∀x c,cs.lookup x=some c->X.env.cells.lookup x=some c\/(C<c/\h1.IsCell c none)) (hinj:∀x y c,cs.lookup x=some c->cs.lookup y=some c->x=y) (hown:∀y∈scope.names,y.2=.cell->∃c,cs.lookup y.1=some c/\C<c) (hfr:∀y∈scope.names,y.2=.free->∃c,cs.lookup y.1=some c/\X.env.cells.lookup y.1=some c)
  (hfp:∀b∈fp,FpOk X pins H2 b) (hfl:∀b∈fp,b<s2.heap.objs.size) (hD:D=s2.heap.objs.size) (hC:C=s2.heap.objs.size+1) (old:∀b o,s2.heap.get? b=some o->h1.get? b=some o) (hns:h1.Ns C m) (hoD:h1.get? D=some oD) (hdD:∀v,oD.data≠.cell v) :
  Inv (ZaL X Nc scope cs C s2 H2 fp) [(D,oD)] (iniC js σ) H2 {s2 with heap:=h1,toks:=tk}:=by
 have leC:s2.heap.objs.size<=C:=by rw[hC];exact YW _
 have leD:s2.heap.objs.size<=D:=Y5 hD.symm
 have kf:∀x,((compEnvC scope cs C X.env).kindOf x=some .cell\/(compEnvC scope cs C X.env).kindOf x=some .free)->∃c,cs.lookup x=some c:=λx hx=>by
  have:∃k,(compEnvC scope cs C X.env).kindOf x=some k/\(k=.cell\/k=.free):=hx.elim (λq=>⟨_,q,.inl rfl⟩) λq=>⟨_,q,.inr rfl⟩
  obtain⟨k,e,hk⟩:=this
  obtain⟨k',h1,h2⟩:=ZaZ (show(scope.names.map _).lookup x=some k from e)
  have hm:=lookup_mem h1
  have:k'=.free\/k'=.cell:=by
   rcases h2 with q|q
   ·subst q
    exact hk.symm
   ·exact .inl q.1
  rcases this with z|z
  ·subst z
   obtain⟨c,q,_⟩:=hfr _ hm rfl
   exact⟨c,q⟩
  ·subst z
   obtain⟨c,q,_⟩:=hown _ hm rfl
   exact⟨c,q⟩
 have nC:∀c x,X.env.cells.lookup x=some c->c<s2.heap.objs.size:=λc x e=>by
  obtain⟨v,q⟩:=I.cell x c e
  exact q.lt
 have noB:∀b,b∈fp->b∉frs X.stack:=λb hb q=>by
  rcases Yo.mp (I.ZfX b q)with z|z
  ·exact(hfp b hb).2.1 z
  ·exact(hfp b hb).2.2.1 z
 have okX:(ZaL X Nc scope cs C s2 H2 fp).Ok:=by
  refine⟨I.ok.mod,(show scope.kind=.function from Zfx hok),I.ok.glob,I.ok.blt,?_,λx y c e1 e2=>hinj x y c e1 e2,λx hx=>?_,(λx c e1 e2=>?_),I.ok.hd,I.ok.frames,.inl rfl,λb hb=>⟨?_,λx c e=>(up _ _ e).elim (λz=>(hfp b hb).2.2.2.2.1 x c z) λz=>Nat.ne_of_gt (Nat.lt_trans (Yu (hfl b hb) leC) z.1)⟩,I.bs,Yf I.ok.bsz I.sz,λb o e hb=>?_,λb hb=>noB b hb,I.stack,I.Zg8⟩
  ·show s2.heap.objs.size<=C;exact leC
  ·exact kf x hx
  ·have hm:=lookup_mem (beq_iff_eq.mp (show(scope.names.lookup x==some NameKind.cell)=true from e1))
   obtain⟨c',q1,q2⟩:=hown _ hm rfl
   have:c=c':=Yy ((show cs.lookup x=some c from e2).symm.trans q1)
   rw[this]
   exact Yf leC (YH q2)
  ·exact Yl (Yu (hfl b hb) leC)
  ·rcases(hfp b hb).2.2.2.1 with q|q
   ·exact I.ok.noex b o e q
   ·exact absurd (Yu (Yj e) (Yf I.ok.bsz q)) (YB _)
 refine⟨okX,rfl,I.bare,Un.kept old,⟨m,hns,λi x v e1 e2 e3=>?_⟩,λx c e=>?_,I.hok.fresh leC,λx c e=>(up _ _ e).elim (λz=>I.freeC x c z) λz=>I.hok.fresh (Yf leC (YH z.1)),λp hp=>?_,I.hok.kept old,?_⟩
 ·have e2':(iniC js σ)[i]?=some (some v):=e2
  unfold iniC at e2'
  rw[YE]at e2'
  cases q:js[i]? with
  |none=>rw[q]at e2';cases e2'
  |some j0 =>
   cases j0 with
   |none=>rw[q]at e2';cases e2'
   |some j =>
    rw[q]at e2'
    simp only[Option.map_some,Option.some.injEq]at e2'
    have e4:σ[j]?=some (some v):=by
     cases z:σ[j]? with
     |none=>rw[z]at e2';cases e2'
     |some o=>rw[z]at e2';simp only[Option.join_some]at e2';rw[e2']
    obtain⟨y,y1,y2,y3⟩:=Zes htk q
    rw[Nat.zero_add]at y1
    have:x=y:=Yy ((show Nc[i]?=some x from e1).symm.trans y1)
    subst this
    have hm:=lookup_mem y3
    obtain⟨c,c1,c2⟩:=hfr _ hm rfl
    have hk:=(ZcQ hok _ hm rfl).2
    obtain⟨m0,hn0,hl0⟩:=I.loc
    obtain⟨u,r,l⟩:=hl0 j x v y2 e4 (hk.elim (λz=>.inr (.inl z)) λz=>.inr (.inr z))
    refine⟨u,r,.inr ⟨?_,c,c1,?_⟩⟩
    ·rcases e3 with z|z|z
     ·obtain⟨k',w1,w2⟩:=ZaZ (show(scope.names.map _).lookup x=some NameKind.local from z)
      rw[y3]at w1;cases w1
      rcases w2 with w|w
      ·cases w
      ·cases w.2
     ·exact .inl z
     ·exact .inr z
    ·rcases l with⟨lk,_⟩|⟨_,c',c3,c4⟩
     ·rcases hk with z|z
      ·rw[show X.env.kindOf x=some .cell from z]at lk;cases lk
      ·rw[show X.env.kindOf x=some .free from z]at lk;cases lk
     ·rw[c2]at c3;cases c3
      obtain⟨oc,w1,w2⟩:=c4
      exact⟨oc,old _ _ w1,w2⟩
 ·rcases up _ _ e with z|z
  ·obtain⟨v,oc,w1,w2⟩:=I.cell x c z
   exact⟨v,oc,old _ _ w1,w2⟩
  ·exact⟨_,z.2⟩
 ·have:p=(D,oD):=by
   have hp':p∈([]++[(D,oD)]:List (Addr×Obj)):=hp
   simpa using hp'
  subst this
  refine⟨hoD,I.hok.fresh leD,(by show D≠C;rw[hD,hC];exact Yl (Nat.lt_succ_self _)),λhb=>?_,hdD⟩
  have hb':D∈frs X.stack:=hb
  obtain⟨_,o,ho,_⟩:=I.stack.mem hb'
  exact absurd (Yu (Yj ho) leD) (YB _)
 ·have:=ZcN htk
  show(iniC js σ).length=Nc.length
  unfold iniC;rw[Yi];omega
theorem ZiS {pins:List (Addr×Obj)}{σ:St}{H:Hp}{s:Shared}{tg elt iter:Expr}{ifs:List Expr}{scope:Scope}{pos:Pos}{wi:TI}{g:TG}{tt:TT}{te:TE}{Nc:List Str}{js:List (Option Nat)}{use:Option (Value->Sem Unit)}{Q:VK}{QQ:Value->Shared->Prop}
  (hc:X.calm=true) (hok:Za4 X.env.scope scope=true) (htk:takesC X.N Nc scope js 0=true) (hi:PI X tg iter wi)
  (hg:∀cl C s2 H2 fp,PG (ZaL X Nc scope cl C s2 H2 fp) tg g) (ht:∀cl C s2 H2 fp,ZmQ (ZaL X Nc scope cl C s2 H2 fp) ifs tt) (he:∀cl C s2 H2 fp,PE (ZaL X Nc scope cl C s2 H2 fp) elt te)
  (hs:∀x,foldedSetIterable iter X.env x=pure x) {L:List Nat} (ho:ZiJ g L) (hL:(L.all λk=>js[k]?==some none)=true) (I:Inv X pins σ H s) (h:Zmf wi g tt te js σ H Q)
  (fin:∀(D C:Addr) (H' H2:Hp) (s2 s':Shared) (xs:List V) (m:Str->Option Value),Inv X pins σ H2 s2->H' C=none->C=D+1->D=s2.heap.objs.size->s'.heap.Ns C m->(∀h',Heap.SameBut C s'.heap h'->Inv X pins σ (upd H' D (.lst xs)) {s' with heap:=h'})->Q (.ref D) (upd H' D (.lst xs)) ->
   compPost (model X.prog X.w) X.A X.xe use QQ (.ref D) C (.ok .next) s') :
  wpAny (model X.prog X.w) X.A (comprehension (.ListComp elt [⟨tg,iter,ifs,0⟩] scope pos) scope X.env (firstIterPos [⟨tg,iter,ifs,0⟩] pos) (newList []) false (eval iter X.env) use) QQ X.xe s:=by
 have hcells:∀y∈scope.names,y.2=.free->∃c,X.env.cells.lookup y.1=some c:=λy hy hf=>I.ok.has y.1 (ZcQ hok y hy hf).2
 obtain⟨cl,hcl,upM,hfr0⟩:=Zks hcells
 have hk:=Zfx hok
 refine wpAny_comprehension_free (use:=use) rfl hs hcl hk (Ziq hok) (thn (hi pins s σ H _ I h) λv s1 h1=>thn h1 λitv s2 h2=>?_)
 obtain⟨it,fp,tn,J,H2,e,I2,T,st2,f2,W,⟨m0,w0⟩,turn⟩:=h2
 subst e
 have clt:∀p∈cl,p.2<s2.heap.objs.size:=λp hp=>by
  obtain⟨v,q⟩:=I2.cell p.1 p.2 (upM p hp)
  exact q.lt
 refine wpAny_newObj_type (Zlt (λp hp=>?_) λcs h₁ CO=>?_)
 ·show p.2<(s2.heap.push _).objs.size
  rw[Heap.size_push];exact YL (clt p hp)
 dsimp only at CO⊢
 generalize hH2:s2.heap.push {cls:=.type "list",dict:=none,data:=.seq ([]:List Value).toArray}=HH at CO⊢
 have hC:HH.objs.size=s2.heap.objs.size+1:=by rw[<-hH2,Heap.size_push]
 have hcl':∀p∈cl,p.2<HH.objs.size:=λp hp=>by rw[hC];exact YL (clt p hp)
 have hns₁:h₁.Ns HH.objs.size (λ_=>none):=⟨_,#[],_,CO.old _ _ (Yp _ rfl),rfl,λe he=>absurd he (by simp),λn=>rfl⟩
 have up:∀x c,cs.lookup x=some c->X.env.cells.lookup x=some c\/(HH.objs.size<c/\h₁.IsCell c none):=λx c e=>by
  rcases CO.mem _ (PySem.mem_of_lookup e)with z|z
  ·exact .inl (upM _ z)
  ·exact .inr ⟨z.1,z.2.2⟩
 have hinj:∀x y c,cs.lookup x=some c->cs.lookup y=some c->x=y:=λx y c e1 e2=>by
  have m1:=PySem.mem_of_lookup e1
  have m2:=PySem.mem_of_lookup e2
  rcases CO.mem _ m1 with z|z
  ·rcases CO.mem _ m2 with z'|z'
   ·exact I2.ok.inj x y c (upM _ z) (upM _ z')
   ·exact absurd (hcl' _ z) (Nat.not_lt_of_le (Nat.le_of_succ_le z'.1))
  ·exact CO.inj _ m1 _ m2 z.1 rfl
 have hfr:∀y∈scope.names,y.2=.free->∃c,cs.lookup y.1=some c/\X.env.cells.lookup y.1=some c:=λy hy hf=>by
  obtain⟨c,q1,q2⟩:=hfr0 y hy hf
  refine⟨c,?_,q2⟩
  rw[CO.oth y.1 λy' hy' hc' z=>?_]
  ·exact q1
  ·have w1:=Zjw hok y' hy' hc'
   have w2:=(ZcQ hok y hy hf).1
   rw[z,w2]at w1;cases w1
 have hfl:∀b∈fp,b<s2.heap.objs.size:=λb hb=>by
  obtain⟨o,ho,_⟩:=T.obj 0 _ st2 b hb
  exact Yj ho
 have hDC:s2.heap.objs.size≠HH.objs.size:=by rw[hC];exact Yl (Nat.lt_succ_self _)
 have old:∀b o,s2.heap.get? b=some o->h₁.get? b=some o:=λb o e=>CO.old b o (Yk _ (hH2▸Yk _ e))
 have hacc:h₁.get? s2.heap.objs.size=some {cls:=.type "list",dict:=none,data:=.seq ([]:List Value).toArray}:=CO.old _ _ (Yk _ (hH2▸Yp _ rfl))
 have I4:=Zkt (Nc:=Nc) (js:=js) (tk:=s2.toks) I2 hok htk up hinj (λy hy hc=>CO.own y hy hc) hfr f2 hfl rfl hC old hns₁ hacc (by intro v z;cases z)
 have st4:tn 0 h₁:=T.keep _ _ _ st2 λb _ o e=>old b o e
 generalize hXc:ZaL X Nc scope cs HH.objs.size s2 H2 fp=Xc at I4
 have hXA:Xc.A=X.A:=by rw[<-hXc];rfl
 have hXe:Xc.env=compEnvC scope cs HH.objs.size X.env:=by rw[<-hXc];rfl
 have hXp:Xc.prog=X.prog:=by rw[<-hXc];rfl
 have hXw:Xc.w=X.w:=by rw[<-hXc];rfl
 have hXx:Xc.xe=λ_ _=>False:=by rw[<-hXc];rfl
 have hXk:Xc.K=X.K:=by rw[<-hXc];rfl
 have hXcalm:Xc.calm=true:=by rw[<-hXc];exact hc
 have fpok:∀{pl:List (Addr×Obj)}{H':Hp},(∀p∈pl,s2.heap.objs.size<=p.1)->(∀b∈fp,H' b=none)->∀b∈fp,FpOk Xc pl H' b:=λ{pl H'} hpl hn b hb=>by
  have k1:b≠HH.objs.size:=Yl (by rw[hC];exact YL (hfl b hb))
  have k2:b∉frs X.stack:=λq=>by
   rcases Yo.mp (I2.ZfX b q)with z|z
   ·exact(f2 b hb).2.1 z
   ·exact(f2 b hb).2.2.1 z
  rw[<-hXc]
  refine⟨hn b hb,k1,k2,.inl hb,λx c e=>(up _ _ e).elim (λz=>(f2 b hb).2.2.2.2.1 x c z) λz=>Nat.ne_of_gt (Nat.lt_trans (by rw[hC];exact YL (hfl b hb)) z.1),λp hp=>?_⟩
  have hp':p∈pl:=by simpa[ZaL,Zn7]using hp
  exact Nat.ne_of_gt (Yu (hfl b hb) (hpl p hp'))
 have gX:PG Xc tg g:=hXc▸hg cs HH.objs.size s2 H2 fp
 have tX:ZmQ Xc ifs tt:=hXc▸ht cs HH.objs.size s2 H2 fp
 have eX:PE Xc elt te:=hXc▸he cs HH.objs.size s2 H2 fp
 have hs0:Xc.s₀=s2:=by rw[<-hXc];rfl
 have hh0:Xc.H₀=H2:=by rw[<-hXc];rfl
 have hfs:Xc.fs=frs X.stack:=by rw[<-hXc];rfl
 have hex:Xc.ex=fp:=by rw[<-hXc];rfl
 have loop:codeAny (model X.prog X.w) X.A (.compLoop (.ListComp elt [⟨tg,iter,ifs,0⟩] scope pos) 0 (.ref it) (.ref s2.heap.objs.size) (compEnvC scope cs HH.objs.size X.env)) (compPost (model X.prog X.w) X.A X.xe use QQ (.ref s2.heap.objs.size) HH.objs.size)
   {s2 with heap:=h₁,toks:=s2.toks}:=by
  refine Zdu (λn s'=>∃i acc its nn H',Inv Xc [(s2.heap.objs.size,{cls:=.type "list",dict:=none,data:=.seq (its:List Value).toArray nn})] (iniC js σ) H' s'/\Vals acc its/\acc.length<=sizeLine/\tn i s'.heap/\(∀b∈fp,H' b=none)/\W i n acc H') ?_ m0
   ⟨0,[],[],0,H2,I4,.nil,Ym _,st4,λb hb=>(f2 b hb).1,w0⟩
  rintro n s3 ⟨i,acc,its,nn,H3,I3,va,hlen,st3,fr3,w3⟩
  have pg:∀p∈([(s2.heap.objs.size,{cls:=.type "list",dict:=none,data:=.seq its.toArray nn})]:List (Addr×Obj)),s2.heap.objs.size<=p.1:=λp hp=>by
   simp only[Yo,List.not_mem_nil,or_false]at hp
   subst hp;exact Yd _
  rcases turn i n acc H3 w3 with⟨stop,hl,qn⟩|⟨go,hl,step⟩
  ·have q:=T.done Xc hXp hXw hXk hXcalm i _ s3 (iniC js σ) H3 (λ_ _=>False) I3 (fpok pg fr3) st3 stop
   rw[hXA]at q
   refine thn q λr s4 ⟨hr,I5⟩=>?_
   subst hr
   have hpin:=I5.pin _ (Yq _ (.head _))
   obtain⟨m5,hn5,_⟩:=I5.loc
   rw[hXe]at hn5
   refine fin _ _ H3 H2 s2 s4 acc m5 I2 (by have:=I5.free;rw[hXe]at this;exact this) hC rfl hn5 (λh' hsb=>?_) (qn _ hpin.2.1)
   have same:∀b o,b≠HH.objs.size->s4.heap.get? b=some o->h'.get? b=some o:=λb o hb e=>hsb.extBut b o hb e
   have un:=I5.base
   rw[hfs,hex,hh0,hs0]at un
   have lt:∀b o,s2.heap.get? b=some o->b<s2.heap.objs.size:=λb o e=>Yj e
   have neC:∀b o,s2.heap.get? b=some o->b≠HH.objs.size:=λb o e=>Yl (by rw[hC];exact YL (lt b o e))
   have neD:∀b o,s2.heap.get? b=some o->b≠s2.heap.objs.size:=λb o e=>Yl (lt b o e)
   have trkC:∀b o,H3 b=some o->b≠HH.objs.size:=λb o e z=>by
    have:=I5.free;rw[hXe]at this;rw[z,show H3 HH.objs.size=none from this]at e;cases e
   refine I2.call' (s':={s4 with heap:=h'}) (ch:=fp) (I5.os.trans (by rw[hs0])) ⟨λb o e n hb hx=>same _ _ (neC b o e) (un.keep b o e n hb hx),λb o e n hb hx=>?_,λb o e n hx=>by rw[Zh (neD b o e)];exact un.free b o e n hx,λb o e hx=>?_,λb xs e=>?_,λb o u e=>?_,λb ps e=>?_⟩ (λa o e=>?_) I5.bare λb hb=>⟨(f2 b hb).2.2.2.1,(f2 b hb).2.1,(f2 b hb).2.2.2.2.1,(f2 b hb).2.2.2.2.2⟩
   ·obtain⟨sl,z⟩:=un.slot b o e n hb hx
    exact⟨sl,same _ _ (neC b o e) z⟩
   ·obtain⟨o',z⟩:=un.there b o e hx
    exact⟨o',same _ _ (neC b o e) z⟩
   ·rw[Zh (Yl (I2.hok.lt e))];exact un.tups b xs e
   ·rw[Zh (Yl (I2.hok.lt e))];exact un.frzs b o u e
   ·obtain⟨more,z⟩:=un.tbls b ps e
    exact⟨more,by rw[Zh (Yl (I2.hok.lt e))];exact z⟩
   ·by_cases ha:a=s2.heap.objs.size
    ·subst ha
     rw[Zb]at e;cases e
     exact⟨hl,its,nn,va,same _ _ hDC hpin.1⟩
    ·rw[Zh ha]at e
     have q:=I5.hok a o e
     rw[hXp,hXw]at q
     refine q.Zhg (λb u hb z=>same b u ?_ z) (λb z=>by rw[Zh];exact z;intro y;subst y;rw[hpin.2.1]at z;cases z) (λb xs z=>by rw[Zh];exact z;intro y;subst y;rw[hpin.2.1]at z;cases z) λb o u z=>by rw[Zh];exact z;intro y;subst y;rw[hpin.2.1]at z;cases z
     rcases hb with hb|hb
     ·subst hb;exact trkC _ _ e
     ·exact trkC _ _ hb
  ·have q:=T.item Xc hXp hXw hXk hXcalm i _ s3 (iniC js σ) H3 (λ_ _=>False) I3 (fpok pg fr3) st3 go
   rw[hXA]at q
   refine thn q λr s4 ⟨u,hr,h4⟩=>?_
   subst hr
   refine thn h4 λ_ s5 ⟨x,H5,I5,r5,y5,st5,fr5⟩=>?_
   have I5':=I5.pinned (fpok pg fr5) (T.obj _ _ st5)
   have again:∀{σ7:St}{H7:Hp}{s7:Shared}{acc7:List V}{its7:List Value}{n7:Nat}{m:Nat},Inv Xc ([(s2.heap.objs.size,{cls:=.type "list",dict:=none,data:=.seq its7.toArray n7})]++Zds fp s5.heap) σ7 H7 s7->Vals acc7 its7->acc7.length<=sizeLine->W (i+1) m acc7 H7->σ7.length=(iniC js σ).length->(∀(k:Nat) v,(iniC js σ)[k]?=some (some v)->σ7[k]?=some (some v)) ->
     ∃i acc its nn H',Inv Xc [(s2.heap.objs.size,{cls:=.type "list",dict:=none,data:=.seq (its:List Value).toArray nn})] (iniC js σ) H' s7/\Vals acc its/\acc.length<=sizeLine/\tn i s7.heap/\(∀b∈fp,H' b=none)/\W i m acc H':=λ{σ7 H7 s7 acc7 its7 n7 m} I7 v7 l7 w7 hl7 hw7=>by
    refine⟨i+1,acc7,its7,n7,H7,(I7.weak hl7.symm hw7).Zdt,v7,l7,T.keep _ _ _ st5 λb hb o e=>(I7.pin (b,o) (Yq _ (Yq _ (ZcI hb e)))).1,λb hb=>?_,w7⟩
    obtain⟨o,e,d⟩:=T.obj _ _ st5 b hb
    exact(I7.pin (b,o) (Yq _ (Yq _ (ZcI hb e)))).2.1
   have keep:∀{σ6:St},Zck L (iniC js σ) σ6->σ6.length=(iniC js σ).length/\∀(k:Nat) v,(iniC js σ)[k]?=some (some v)->σ6[k]?=some (some v):=λ{σ6} hk=>⟨hk.1,λk v e=>by
    rw[hk.2 k]
    ·exact e
    ·intro z
     have q:=List.all_eq_true.mp hL k z
     simp only[beq_iff_eq]at q
     unfold iniC at e
     rw[YE,q]at e
     cases e⟩
   have q6:=gX _ s5 (iniC js σ) H5 x u _ I5' r5 (ho _ _ _ _ _ (fun σ' H' kk z=>And.intro kk z) (step x H5 y5))
   rw[hXe,hXA,hXp,hXw,hXx]at q6
   refine thn q6 λ_ s6 ⟨σ6,H6,I6,k6,q6⟩=>?_
   obtain⟨kl,kv⟩:=keep k6
   have q7:=tX _ s6 σ6 H6 _ I6 q6
   rw[hXe,hXA,hXp,hXw,hXx]at q7
   refine thn q7 λb s7 ⟨H7,I7,q7⟩=>?_
   cases b with
   |false =>
    obtain⟨m',hm,w7⟩:=q7
    exact⟨m',hm,again I7 va hlen w7 kl kv⟩
   |true =>
    have q8:=eX _ s7 σ6 H7 _ I7 q7
    rw[hXe,hXA,hXp,hXw,hXx]at q8
    refine thn q8 λy s8 ⟨v8,H8,I8,r8,m',hm,w8⟩=>?_
    have pinD:=I8.pin _ (Yq _ (YN _ (.head _)))
    have hnf:∀p∈Zds fp s5.heap,p.1≠s2.heap.objs.size:=λp hp=>by
     obtain⟨z,_⟩:=ZiD hp
     exact Yl (hfl _ z)
    have va':=va.length
    refine call_meets F.slot_list_append ⟨_,pinD.1,rfl⟩ F.entry_list_append (F.args_list_append_2 _ _) (PySem.list_append s2.heap.objs.size its.toArray nn y (by rw[Yt];omega)) ⟨pinD.1,?_⟩
    have e9:=PySem.IsL.update pinD.1 (λa=>a.push y)
    have e9':its.toArray.push y=(its++[y]).toArray:=by simp
    dsimp only at e9
    rw[e9']at e9
    have I8':Inv Xc (Zds fp s5.heap) σ6 H8 s8:=I8.Za1 λp hp=>I8.pin p (Yq _ (Yq _ hp))
    have hXpn:Xc.pn=[]:=by rw[<-hXc];rfl
    have hXs:s2.heap.objs.size∉frs X.stack:=by rw[<-hfs];exact pinD.2.2.2.1
    have I9:=I8'.turned (t':=s8.toks) (it:=s2.heap.objs.size) (h':=s8.heap.update s2.heap.objs.size (Obj.mapSeq λa=>a.push y)) (λb o hb e=>(Heap.get?_update_other s8.heap _ (Ne.symm hb)).trans e) pinD.2.1 pinD.2.2.1
     (.inr (by rw[hs0];exact Yd _)) (λx c e=>by
      rw[hXe]at e
      intro z
      rcases up _ _ e with y|y
      ·obtain⟨v,q⟩:=I2.cell x c y
       exact absurd q.lt (by rw[z];exact YB _)
      ·have:=y.1
       rw[z,hC]at this
       exact absurd this (Nat.not_lt_of_le (YW _))) (λp hp=>by rw[hXpn,List.nil_append]at hp;exact hnf p hp)
    have I10:=I9.Za1 (pins':=[(s2.heap.objs.size,{cls:=.type "list",dict:=none,data:=.seq (its++[y]).toArray _})]++Zds fp s5.heap) λp hp=>by
     rcases Yz.mp hp with z|z
     ·simp only[Yo,List.not_mem_nil,or_false]at z
      subst z
      exact⟨e9,pinD.2.1,pinD.2.2.1,pinD.2.2.2.1,by intro v z;cases z⟩
     ·exact I9.pin p (Yq _ z)
    exact⟨m',hm,again I10 (va.append (.cons r8 .nil)) (by rw[YD,List.length_singleton];omega) w8 kl kv⟩
 exact codeAny_compStart_list loop (T.self _ 0 _ _ _ st4 loop)
theorem ZaR {tg elt iter:Expr}{ifs:List Expr}{scope:Scope}{pos:Pos}{wi:TI}{g:TG}{tt:TT}{te:TE} (Nc:List Str) (js:List (Option Nat)) {L:List Nat}
  (hc:X.calm=true) (hok:Za4 X.env.scope scope=true) (htk:takesC X.N Nc scope js 0=true) (hi:PI X tg iter wi)
  (hg:∀cl C s2 H2 fp,PG (ZaL X Nc scope cl C s2 H2 fp) tg g) (ht:∀cl C s2 H2 fp,ZmQ (ZaL X Nc scope cl C s2 H2 fp) ifs tt) (he:∀cl C s2 H2 fp,PE (ZaL X Nc scope cl C s2 H2 fp) elt te)
  (ho:ZiJ g L) (hL:(L.all λk=>js[k]?==some none)=true:=by rfl) (hs:∀x,foldedSetIterable iter X.env x=pure x:=by intro _;rfl):PE X (.ListComp elt [⟨tg,iter,ifs,0⟩] scope pos) (Zmf wi g tt te js):=by
 intro pins s σ H Q I h
 rw[eval_ListComp]
 exact ZiS (use:=none) hc hok htk hi hg ht he hs ho hL I h λD C H' H2 s2 s' xs m I2 hHC e1 e2 hn hI q=>⟨m,hn,λh' hsb=>⟨.ref D,_,hI h' hsb,rfl,q⟩⟩
theorem Zfy {i:Nat}{x:Str}{pos' spos:Pos}{tg elt iter:Expr}{ifs:List Expr}{scope:Scope}{pos:Pos}{wi:TI}{g:TG}{tt:TT}{te:TE} (Nc:List Str) (js:List (Option Nat)) {L:List Nat}
  (hN:X.N.Nodup) (hxi:X.N[i]?=some x) (hx:Loc X.env.scope x)
  (hc:X.calm=true) (hok:Za4 X.env.scope scope=true) (htk:takesC X.N Nc scope js 0=true) (hi:PI X tg iter wi)
  (hg:∀cl C s2 H2 fp,PG (ZaL X Nc scope cl C s2 H2 fp) tg g) (ht:∀cl C s2 H2 fp,ZmQ (ZaL X Nc scope cl C s2 H2 fp) ifs tt) (he:∀cl C s2 H2 fp,PE (ZaL X Nc scope cl C s2 H2 fp) elt te)
  (ho:ZiJ g L) (hL:(L.all λk=>js[k]?==some none)=true:=by rfl) (hs:∀x,foldedSetIterable iter X.env x=pure x:=by intro _;rfl)
  (hsw:swapsWith (.ListComp elt [⟨tg,iter,ifs,0⟩] scope pos) (some (.Name x pos')) spos.line X.env=pure true:=by rfl)
  (hf:X.fn x=true\/X.env.scope.names.lookup x=some .local:=by first|exact .inl rfl|exact .inr rfl|assumption) :
  PS X (.Assign [.Name x pos'] (.ListComp elt [⟨tg,iter,ifs,0⟩] scope pos) spos) (tAsg (Zmf wi g tt te js) (gName i)):=by
 intro pins s σ H D I h
 rw[exec_Assign_Name_used _ _ _ _ hsw]
 refine Ya (wpAny_standAt (Ya ?_))
 show wpAny _ _ (comprehension _ _ _ _ _ _ _ _ >>= _) _ _ _
 refine Ya (thn (Q:=λ_ s'=>∃σ' H',Inv X pins σ' H' s'/\D.nx σ' H') (ZiS (Q:=λv H1=>gName i v σ H1 D.nx) (use:=some (assign (.Name x pos') X.env)) hc hok htk hi hg ht he hs ho hL I h ?_) λ_ s' ⟨σ',H',I',q⟩=>Ye (Ye ⟨σ',H',I',q⟩))
 intro D' C H' H2 s2 s' xs m I2 hHC e1 e2 hn hI q
 obtain⟨oC,es,ep,hoC,hdC,hrest⟩:=id hn
 have leC:s2.heap.objs.size<=C:=by rw[e1,e2];exact YW _
 have ltC:s2.heap.objs.size<C:=by rw[e1,e2];exact Nat.lt_succ_self _
 have neDC:C≠D':=by rw[e2];exact Nat.ne_of_gt ltC
 have fresh:s2.heap.get? C=none:=by
  cases e:s2.heap.get? C with
  |none=>rfl
  |some o=>exact absurd (Yu (Yj e) leC) (YB _)
 have neL:C≠X.env.locals:=Nat.ne_of_gt (Yu I2.lt leC)
 have nfs:C∉X.fs:=I2.nofs leC
 have ncl:∀x c,X.env.cells.lookup x=some c->c≠C:=λx c e z=>by
  obtain⟨v,q⟩:=I2.cell x c e
  exact absurd (Yu q.lt leC) (by rw[z];exact YB _)
 have npn:∀p∈X.pn++pins,p.1≠C:=λp hp z=>by
  have:=(I2.pin p hp).1
  rw[z,fresh]at this;cases this
 have hH:(upd H' D' (HO.lst xs)) C=none:=by rw[Zh neDC];exact hHC
 have I0:=hI s'.heap Zjn
 have I1:Inv X (pins++[(C,oC)]) σ (upd H' D' (.lst xs)) s':=I0.Za1 λp hp=>by
  rcases Yz.mp hp with z|z
  ·exact I0.pin p (Yq _ z)
  ·simp only[Yo,List.not_mem_nil,or_false]at z
   subst z
   exact⟨hoC,hH,neL,nfs,λv z=>by rw[hdC]at z;cases z⟩
 show wpAny _ _ _ _ _ _
 refine thn (Zl (X:=X) (i:=i) hN hxi hx hf (pins++[(C,oC)]) s' σ _ (.ref D') (.ref D') _ I1 rfl q) λ_ s3 ⟨σ3,H3,I3,q3⟩=>?_
 have pC:=I3.pin (C,oC) (Yq _ (Yq _ (.head _)))
 refine⟨m,⟨oC,es,ep,pC.1,hdC,hrest⟩,λh' hsb=>⟨σ3,H3,?_,q3⟩⟩
 exact I3.Zdt.turned (t':=s3.toks) (it:=C) (λb o hb e=>hsb.extBut b o hb e) pC.2.1 neL (.inr (Yf I2.sz leC)) ncl npn
end
end L2
namespace L2
open PySem PySem.Spec PyProof.Rows PySem.W
noncomputable def CF (n:Nat) (P:Nat->Bool) (vals:Nat->V) (H1:Hp) (i m:Nat) (acc:List V) (H:Hp):Prop:=m=n-i/\i<=n/\acc=((List.range i).filter P).map vals/\Zf H1 H
theorem CF.take {n:Nat}{P:Nat->Bool}{vals:Nat->V}{H1 H:Hp}{i:Nat}{v:V} (hi:i<n) (hP:P i=true) (hv:v=vals i) (s:Zf H1 H):∃m',m'<n-i/\CF n P vals H1 (i+1) m' (((List.range i).filter P).map vals++[v]) H :=
 ⟨n-(i+1),by omega,rfl,hi,by rw[YJ,List.filter_append,YM,hv];simp[hP],s⟩
theorem CF.skip {n:Nat}{P:Nat->Bool}{vals:Nat->V}{H1 H:Hp}{i:Nat} (hi:i<n) (hP:P i=false) (s:Zf H1 H):∃m',m'<n-i/\CF n P vals H1 (i+1) m' (((List.range i).filter P).map vals) H :=
 ⟨n-(i+1),by omega,rfl,hi,by rw[YJ,List.filter_append,YM];simp[hP],s⟩
theorem ZiT {J:It}{n:Nat}{H1:Hp}{g:TG}{tt:TT}{te:TE}{σ0:St}{Q:VK} (P:Nat->Bool) (vals:Nat->V) (hn:n<sizeLine) (hgo:∀i H,Zf H1 H->i<n->J.go i H) (hstop:∀H,Zf H1 H->J.stop n H)
  (hb:∀i x H H',i<n->Zf H1 H->J.yld i H x H'->g x σ0 H' fun σ2 H2=>tt σ2 H2 λb H3=>if b=true then te σ2 H3 λv H4=>∃m',m'<n-i/\CF n P vals H1 (i+1) m' (((List.range i).filter P).map vals++[v]) H4 else ∃m',m'<n-i/\CF n P vals H1 (i+1) m' (((List.range i).filter P).map vals) H3)
  (hk:∀l H',Zf H1 H'->H' l=none->Q (.ref l) (upd H' l (.lst (((List.range n).filter P).map vals)))) :
  ZeI J g tt te σ0 Q H1:=by
 refine⟨CF n P vals H1,⟨n,rfl,Ym _,rfl,Zf.refl _⟩,?_⟩
 rintro i m acc H ⟨rfl,hi,rfl,s⟩
 have hlen:(((List.range i).filter P).map vals).length<=n:=by
  rw[Yi]
  have:=List.length_filter_le P (List.range i)
  rw[Y4]at this
  omega
 by_cases h:i<n
 ·exact .inr ⟨hgo i H s h,by omega,λx H' y=>hb i x H H' h s y⟩
 ·have:i=n:=by omega
  subst this
  exact .inl ⟨hstop H s,by omega,λp hp=>hk p H s hp⟩
theorem Zor {ns T:List Int}{g:Nat->Int} (hT:Zi ns T) (hg:∀q p,q<ns.length->p<ns.length->Over (nth ns) q p->(q<p->g q<=g p)/\(p<q->g q<g p)):∀p,p<ns.length->Zy g ns.length p (T.getD p 0):=by
 intro p hp
 have pv:∀q,ZU (nth ns) p q->ZU g p q:=λq h=>by
  refine⟨h.1,(hg q p (by have:=h.1;omega) hp (.inl ⟨h.1,λr r1 r2=>?_⟩)).1 h.1,λr r1 r2=>(hg p r hp (by omega) (.inr ⟨r2,λs s1 s2=>h.2.2 s (by omega) s2⟩)).2 r2⟩
  by_cases z:r=p
  ·rw[z];exact h.2.1
  ·have:=h.2.2 r r1 (by omega);have:=h.2.1;omega
 have nx:∀r,ZO (nth ns) ns.length p r->ZO g ns.length p r:=λq h=>by
  refine⟨h.1,h.2.1,(hg q p h.2.1 hp (.inr ⟨h.1,λr r1 r2=>?_⟩)).2 h.1,λs s1 s2=>(hg p s hp (by have:=h.2.1;omega) (.inl ⟨s1,λr r1 r2=>h.2.2.2 r r1 (by omega)⟩)).1 s1⟩
  by_cases z:r=p
  ·rw[z];exact h.2.2.1
  ·have:=h.2.2.2 r (by omega) r2;have:=h.2.2.1;omega
 have np:ZaP (nth ns) p->ZaP g p:=λh q hq=>(hg p q hp (by omega) (.inr ⟨hq,λr r1 r2=>h r r2⟩)).2 hq
 have nn:Zaw (nth ns) ns.length p->Zaw g ns.length p:=λh r r1 r2=>(hg p r hp r2 (.inl ⟨r1,λs s1 s2=>h s s1 (by omega)⟩)).1 r1
 have hE:Zy (nth ns) ns.length p (T.getD p 0):=hT.2 p hp
 rcases hE with⟨h1,h2,h⟩|⟨q,h1,h2,h⟩|⟨r,h1,h2,h⟩|⟨q,r,h1,h2,h⟩
 ·exact .inl ⟨np h1,nn h2,h⟩
 ·exact .inr (.inl ⟨q,pv q h1,nn h2,h⟩)
 ·exact .inr (.inr (.inl ⟨r,np h1,nx r h2,h⟩))
 ·refine .inr (.inr (.inr ⟨q,r,pv q h1,nx r h2,?_⟩))
  rw[h]
  have hq:q<ns.length:=by have:=h1.1;omega
  have hqr:q<r:=by have:=h1.1;have:=h2.1;omega
  by_cases z:nth ns q<=nth ns r
  ·have:=(hg q r hq h2.2.1 (.inl ⟨hqr,λs s1 s2=>by
    by_cases y:s=r
    ·rw[y];exact z
    ·by_cases y2:s=p
     ·rw[y2];exact h1.2.1
     ·have:=h1.2.1
      by_cases y3:s<p
      ·have:=h1.2.2 s s1 y3;omega
      ·have:=h2.2.2.2 s (by omega) (by omega);omega⟩)).1 hqr
   rw[Yc z,Yc (by omega)]
  ·have:=(hg r q h2.2.1 hq (.inr ⟨hqr,λs s1 s2=>by
    have:=h1.2.1;have:=h2.2.2.1
    by_cases y:s=q
    ·rw[y];omega
    ·by_cases y2:s=p
     ·rw[y2];omega
     ·by_cases y3:s<p
      ·have:=h1.2.2 s (by omega) y3;omega
      ·have:=h2.2.2.2 s (by omega) (by omega);omega⟩)).2 hqr
   rw[Yb z,Yb (by omega)]
theorem Zmt {ns T:List Int} (hT:Zi ns T) {p o:Nat} (hp:p<ns.length):(o:Int)∈wayI T p↔o<ns.length/\Over (nth ns) o p:=by
 rw[<-(Zdx hT T.length p hp (by rw[hT.1];exact YH (Zjv hp))).1 o]
 unfold wayI
 rw[YG]
 refine⟨λ⟨q,hq,e⟩=>?_,λh=>⟨o,h,rfl⟩⟩
 have:q=o:=by omega
 rw[<-this];exact hq
theorem Zos {xs:List V}{v:V} (h:0<xs.length) (hv:xs[xs.length-1]?=some v):atI xs (-1)=some v:=by
 have e:ixN xs.length (-1)=some (xs.length-1):=by
  unfold ixN
  rw[Yb (by omega),Yc (by omega)]
  congr 1
  omega
 unfold atI
 rw[e]
 exact hv
end L2
namespace HT
open PySem PyProof.Rows
section
open PySem.SeqAt
open PySem.AutoSeq1 (wpAny_loadPart')
open PySem.MeetsSeq PySem.MeetsSeq2 PySem.MeetsSeq3
variable {prog:Program}{w:World}{A:Around}{E:Value->Shared->Prop}{s:Shared}
end
end HT
namespace L2
open PySem PySem.Spec PyProof.Rows PySem.W
theorem Zku (T:List Int):∀k a,(Zaf T k a).length<k->Zaf T (k+1) a=Zaf T k a
 |0,_,h=>by omega
 |k+1,a,h=>by
  rw[Zaf]at h⊢
  by_cases z:0<=a/\a<T.length
  ·rw[Yc z]at h⊢
   rw[Zku T k _ (by simpa using h),Zaf,Yc z]
  ·rw[Yb z]at h⊢
   rw[Zaf,Yb z]
noncomputable def way (T:List Int) (p:Nat):List Nat:=Zaf T T.length (nth T p)
theorem Zqu {T:List Int}{p:Nat} (h:nth T p=-1):way T p=[]:=by
 unfold way
 rw[h]
 cases T.length with
 |zero=>rfl
 |succ k=>rw[Zaf,Yb (by omega)]
theorem ZaS {ns T:List Int} (hT:Zi ns T) {p q:Nat} (hp:p<ns.length) (h:nth T p=q):way T p=q::way T q:=by
 have hE:Zy (nth ns) ns.length p (q:Int):=h▸hT.2 p hp
 have hq:q<ns.length:=by
  rcases ZbQ hp hE with z|⟨q',e,z,_⟩<;>omega
 have hd:=Zf5 hp hE
 have hl:=Zjv (f:=nth ns) hp
 unfold way
 rw[h,hT.1]
 obtain⟨k,hk⟩:∃k,ns.length=k+1:=⟨ns.length-1,by omega⟩
 rw[hk,Zaf,Yc ⟨by omega,by rw[hT.1];omega⟩,show((q:Nat):Int).toNat=q by omega]
 rw[Zku T k (nth T q)]
 rw[(Zdx hT k q hq (by omega)).2]
 omega
theorem Zfz (T:List Int) (p:Nat):wayI T p=(way T p).map λq=>((q:Nat):Int):=rfl
theorem Zb3 {ns T:List Int} (hT:Zi ns T) {p:Nat} (hp:p<ns.length):nth T p=-1\/∃q:Nat,nth T p=q/\q<ns.length/\Over (nth ns) q p/\dep (nth ns) ns.length p=dep (nth ns) ns.length q+1:=by
 rcases ZbQ hp (hT.2 p hp)with z|⟨q,e,hq,hO⟩
 ·exact .inl z
 ·have e':nth T p=(q:Int):=e
  have hE:Zy (nth ns) ns.length p (q:Int):=e'▸hT.2 p hp
  exact .inr ⟨q,e,hq,hO,Zf5 hp hE⟩
noncomputable def Zaa (T:List Int) (p:Nat):Nat:=((way T p).filter λo=>decide (p<o)).length
noncomputable def Zap (T:List Int):List Int:=(List.range T.length).map λp=>(Zaa T p:Int)
theorem ZiU (T:List Int):(Zap T).length=T.length:=by simp[Zap]
theorem ZbM {T:List Int}{p:Nat} (h:p<T.length):nth (Zap T) p=Zaa T p:=by simp[nth,Zap,Yg,h]
theorem ZcB {P Q:Nat->Bool}{l:List Nat} (h:∀x∈l,P x=Q x):(l.filter P).length=(l.filter Q).length:=by
 rw[List.filter_congr h]
theorem Zaq {ns T:List Int} (hT:Zi ns T) {p o:Nat} (hp:p<ns.length):o∈way T p↔o<ns.length/\Over (nth ns) o p:=by
 unfold way
 rw[hT.1]
 exact(Zdx hT ns.length p hp (YH (Zjv hp))).1 o
theorem Zm4 {f:Nat->Int}{o q p:Nat} (h:Over f o q) (k:Over f q p):(p<q->p<o->q<o)/\(q<p->q<o->p<o):=by
 refine⟨λh1 h2=>Nat.lt_of_not_le λz=>?_,λh1 h2=>Nat.lt_of_not_le λz=>?_⟩
 ·rcases h with⟨a,b⟩|⟨a,b⟩
  ·rcases k with⟨c,d⟩|⟨c,d⟩
   ·omega
   ·have:=d o (by omega) a;have:=b q a (Yd _);omega
  ·omega
 ·rcases h with⟨a,b⟩|⟨a,b⟩
  ·omega
  ·rcases k with⟨c,d⟩|⟨c,d⟩
   ·have:=d o h2 z;have:=b q (Yd _) a;omega
   ·omega
theorem ZcC {ns T:List Int} (hT:Zi ns T) {p q:Nat} (hp:p<ns.length) (hq:q<ns.length) (h:nth T p=q) (hO:Over (nth ns) q p):Zaa T p=Zaa T q+if p<q then 1 else 0:=by
 unfold Zaa
 rw[ZaS hT hp h,List.filter_cons]
 have e:((way T q).filter λo=>decide (p<o)).length=((way T q).filter λo=>decide (q<o)).length:=by
  refine ZcB λo ho=>?_
  have ho':=((Zaq hT hq).mp ho).2
  have hs:=Zm4 ho' hO
  have hne:=hO.ne
  have hne2:=ho'.ne
  rw[Bool.eq_iff_iff,decide_eq_true_eq,decide_eq_true_eq]
  rcases Nat.lt_or_gt_of_ne hne with z|z
  ·exact⟨λy=>by omega,λy=>hs.2 z y⟩
  ·exact⟨λy=>hs.1 z y,λy=>by omega⟩
 by_cases z:p<q
 ·rw[Yc (by simpa using z),Yc z,Yn,e]
 ·rw[Yb (by simpa using z),Yb z,e,Nat.add_zero]
theorem Zkv {ns T:List Int} (hT:Zi ns T) {R:Nat->Nat->Prop} (h1:∀p q,p<ns.length->q<ns.length->nth T p=q->Over (nth ns) q p->R q p) (h2:∀o q p,Over (nth ns) o q->Over (nth ns) q p->R o q->R q p->R o p) :
  ∀d p o,p<ns.length->o<ns.length->dep (nth ns) ns.length p=d->Over (nth ns) o p->R o p:=by
 intro d
 induction d with
 |zero =>
  intro p o hp ho hd hO
  rcases Zb3 hT hp with z|⟨q,e,hq,hOq,hdq⟩
  ·exact absurd hO (Zew hp ho (z▸hT.2 p hp))
  ·omega
 |succ d ih =>
  intro p o hp ho hd hO
  rcases Zb3 hT hp with z|⟨q,e,hq,hOq,hdq⟩
  ·exact absurd hO (Zew hp ho (z▸hT.2 p hp))
  ·rcases(Zhz hp ho (show Zy (nth ns) ns.length p (q:Int)from(show T.getD p 0=(q:Int)from e)▸hT.2 p hp)).mp hO with y|y
   ·rw[y];exact h1 p q hp hq e hOq
   ·exact h2 o q p y hOq (ih q o hq ho (by omega) y) (h1 p q hp hq e hOq)
theorem Zm5 {ns T:List Int} (hT:Zi ns T) {p o:Nat} (hp:p<ns.length) (ho:o<ns.length) (hO:Over (nth ns) o p):Zaa T o<=Zaa T p/\(p<o->Zaa T o<Zaa T p):=by
 refine Zkv hT (R:=λo p=>Zaa T o<=Zaa T p/\(p<o->Zaa T o<Zaa T p)) (λp q hp hq e hO=>?_) (λo q p h1 h2 r1 r2=>?_) _ p o hp ho rfl hO
 ·have:=ZcC hT hp hq e hO
  refine⟨by omega,λz=>?_⟩
  rw[Yc z]at this;omega
 ·refine⟨Yf r1.1 r2.1,λz=>?_⟩
  by_cases y:p<q
  ·have:=r2.2 y;have:=r1.1;omega
  ·have hne:=h2.ne
   have:=r1.2 (by omega);have:=r2.1;omega
section
variable {X:Cx}{pins:List (Addr×Obj)}{σ:St}{H:Hp}{s:Shared}{h':Heap}
theorem Inv.Zjx {t':Nat}{fp:List Addr}{T:Addr}{o:HO} (I:Inv X pins σ H s) (k:∀b u,b∉fp->s.heap.get? b=some u->h'.get? b=some u) (hf:∀b∈fp,FpOk X pins H b) (hT:s.heap.objs.size<=T) (new:ZW X.prog X.w (upd H T o) h' T o) :
  Inv X pins σ (upd H T o) {s with heap:=h',toks:=t'}:=by
 have nit:∀b u,H b=some u->b∉fp:=λb u e z=>by rw[(hf b z).1]at e;cases e
 have hfr:H T=none:=I.hok.fresh hT
 have neT:∀b u,s.heap.get? b=some u->b≠T:=λb u e z=>absurd (Yj e) (by rw[z];exact Nat.not_lt_of_le hT)
 have neH:∀b u,H b=some u->b≠T:=λb u e z=>by rw[z,hfr]at e;cases e
 refine I.step (g':=s.gens) (d':=s.drawn) (ch:=fp) (λb hb=>?_) (λb o _ _ hc e _=>k b o hc e) (λb o _ _ hc e _=>⟨o.slots,k b o hc e⟩) (λb u _ e n=>by rw[Zh (neT b u e)];exact n)
  (λb o hc e=>⟨o,k b o hc e⟩) (λb xs e=>by rw[Zh (neH b _ e)];exact e) (λb o u e=>by rw[Zh (neH b _ e)];exact e) (λb ps e=>⟨#[],by rw[Zh (neH b _ e),e];simp⟩) (λm hm=>?_) (λb u e=>?_) I.bare
 ·obtain⟨_,f1,_,f3,f4,f5⟩:=hf b hb
  exact⟨f3,f1,f4,f5⟩
 ·obtain⟨o,es,ep,ho,r⟩:=hm
  exact⟨o,es,ep,k _ o (λz=>(hf _ z).2.1 rfl) ho,r⟩
 ·by_cases z:b=T
  ·subst z
   rw[Zb]at e;cases e
   exact new
  ·rw[Zh z]at e
   refine(I.hok b u e).Zhg (λc v hc q=>k c v ?_ q) (λc q=>?_) (λc xs q=>?_) λc o u q=>?_
   ·rcases hc with y|y
    ·rw[y];exact nit b u e
    ·exact nit c _ y
   ·rw[Zh (neH _ _ q)];exact q
   ·rw[Zh (neH _ _ q)];exact q
   ·rw[Zh (neH _ _ q)];exact q
noncomputable def Ite (K : Frag) (a : Addr) : It :=
  ⟨fun i H => ∃ xs x, SqL K H a xs ∧ xs[i]? = some x,
   fun i H v H' => ∃ p x, H p = none ∧ v = .ref p ∧ H' = upd H p (.tup [.int (i : Int), x]) ∧ ∀ xs, SqL K H a xs → xs[i]? = some x,
   fun i H => ∃ xs, SqL K H a xs ∧ xs.length = i⟩
theorem Zm6 {P:Program}{w:World}{K:Frag}{elts:List Expr} {x1}{pos:Pos}{a e it:Addr} (h1:e≠it) (h2:a≠e) (h3:a≠it) :
  Turn P w K (.Tuple elts x1 pos) (Ite K a) [e,it] e (λi h=>(∃old,IsEnum h e it (i:Int) old)/\h.IsListIter it a i) where
 mem:=by simp
 obj:=λi h st c hc=>by
  obtain⟨⟨old,q1⟩,⟨o4,q4,_,d4⟩⟩:=st
  simp at hc
  rcases hc with rfl|rfl
  ·exact⟨_,q1,λv z=>by cases z⟩
  ·exact⟨_,q4,λv z=>by rw[d4]at z;cases z⟩
 keep:=λi h h' st k=>by
  obtain⟨⟨old,q1⟩,q4⟩:=st
  exact⟨⟨old,k e (by simp) _ q1⟩,q4.at λo z=>k it (by simp) o z⟩
 item:=by
  intro X hP hw hK hc i pins s σ H E I hf st hg
  subst hP hw hK
  obtain⟨xs,x,qa,hx⟩:=hg
  obtain⟨is1,r1,p1,hz1⟩:=I.list qa
  obtain⟨u,hu,ru⟩:=r1.get hx
  have W:=WalksT.enumerate (prog:=X.prog) (w:=X.w) (I.ok.hd hc) e it a h1 h2 h3 is1.toArray
  have hi:i<is1.toArray.size:=by
   have:=(Yr.mp hu).1
   simpa using this
  refine W.item i s _ E hi ⟨st.1,st.2,p1.isList⟩ λT vals h' tk Pt hT hTup Mid keep=>⟨_,rfl,W.go elts x1 pos i T _ _ E Mid λh2' St2 keep2=>?_⟩
  obtain⟨t,y,hy,rfl⟩:=Pt
  have hyu:y=u:=by
   have:is1[i]?=some y:=by simpa using hy
   rw[hu]at this;exact(Yy this).symm
  subst hyu
  have nT:=W.apart i T h' Mid
  have hfr:H T=none:=I.hok.fresh hT
  have kk:∀b o,b∉[e,it]->s.heap.get? b=some o->h2'.get? b=some o:=λb o hb q=>keep2 b o hb (keep b o hb q)
  have nTe:∀c∈[e,it],c≠T:=λc hc z=>nT (z▸hc)
  refine⟨.ref T,_,Inv.Zjx (s:=s) (t':=tk) (o:=.tup [.int (i:Int),x]) I kk hf hT ?_,rfl,⟨T,x,hfr,rfl,rfl,λxs' q'=>?_⟩,⟨?_,St2.2.1⟩,λc hc=>?_⟩
  ·obtain⟨oT,q1,q2,n,q3⟩:=hTup
   exact⟨by show 2<=sizeLine;decide,[.int (i:Int) t,y],.cons ⟨t,rfl⟩ (.cons ru .nil),⟨oT,keep2 T oT nT q1,q2,n,q3⟩⟩
  ·rw[I.Zcy q' qa];exact hx
  ·obtain⟨old,q⟩:=St2.1
   exact⟨old,by rw[show(((i+1:Nat)):Int)=(i:Int)+1 by omega]at *;exact q⟩
  ·rw[Zh (nTe c hc)];exact(hf c hc).1
 done:=by
  intro X hP hw hK hc i pins s σ H E I hf st hg
  subst hP hw hK
  obtain⟨xs,qa,hx⟩:=hg
  obtain⟨is1,r1,p1,_⟩:=I.list qa
  have W:=WalksT.enumerate (prog:=X.prog) (w:=X.w) (I.ok.hd hc) e it a h1 h2 h3 is1.toArray
  have hi:i=is1.toArray.size:=by
   have:=r1.length
   simp;omega
  refine W.done s _ E ?_ λh' tk keep=>⟨rfl,I.Zjq (t':=tk) (fp:=[e,it]) (λc o hc q=>keep c o hc q) hf⟩
  rw[<-hi]
  exact⟨st.1,st.2,p1.isList⟩
 self:=λA i s Q E st h=>by
  obtain⟨⟨old,q⟩,_⟩:=st
  exact wpAny_pyIter_enum q h
noncomputable def iEnum (K:Frag) (ta:TA):TI:=fun σ H R=>ta σ H λvs H1=>∃a xs,vs=[.ref a]/\SqL K H1 a xs/\R (Ite K a) H1
theorem ZeW:bootBuiltins "enumerate"=some (.type "enumerate"):=by decide +kernel
theorem Zqv {K:Frag}{elts:List Expr} {x1}{tp:Pos}{e1:Expr}{ta:TA}{p pos:Pos} (hK:X.K=K) (hg:Gl X "enumerate") (hm:X.mg "enumerate"=none) (ha:PA X [e1] ta) (hs:starEach [e1] X.env=[(false,eval e1 X.env)]:=by rfl) :
  PI X (.Tuple elts x1 tp) (.Call (.Name "enumerate" p) [e1] [] pos) (iEnum K ta):=by
 subst hK
 intro pins s σ H R I h
 refine wpAny_Call_Name_kw (Zbc I hg hm ZeW ?_)
 refine PyProof.Rows.callWith_type1 (thn (ha pos pins s σ H _ I h) λus s1 ⟨vs,H1,I1,r1,a,xs,e1,qa,q⟩=>?_) hs rfl
 subst e1
 obtain⟨u,rfl,ru⟩:=r1.one
 cases(show u=Value.ref a from ru)
 obtain⟨is1,rr1,p1,_⟩:=I1.list qa
 refine call_enumerate_list p1.isList λh' c1 c2 c3 c4=>?_
 have l1:a<s1.heap.objs.size:=by obtain⟨o,e,_⟩:=p1.isList;exact Yj e
 have sm:∀b,s1.heap.objs.size<=b->FpOk X pins H1 b:=λb hb=>I1.Zjh hb (I1.hok.fresh hb)
 have n1:s1.heap.objs.size+1≠s1.heap.objs.size:=by show ¬ ((_:Nat)=_);omega
 have n2:a≠s1.heap.objs.size+1:=Yl (YL l1)
 have n3:a≠s1.heap.objs.size:=Yl l1
 have T:=Zm6 (P:=X.prog) (w:=X.w) (K:=X.K) (elts:=elts) (x1:=x1) (pos:=tp) n1 n2 n3
 refine T.self _ 0 _ _ _ ⟨⟨_,c1⟩,c2⟩ ?_
 refine⟨_,[s1.heap.objs.size+1,s1.heap.objs.size],_,_,H1,rfl,I1.kept (t':=s1.toks) c4,T,⟨⟨_,c1⟩,c2⟩,λc hc=>?_,q⟩
 simp at hc
 rcases hc with rfl|rfl<;>exact sm _ (by omega)
end
theorem ZiV {prog:Program}{w:World}{A:Around}{R:Result->Shared->Prop}{I:Addr}{fp wr:List Addr}{n:Nat}{P:Nat->Value->Prop}{St:Nat->Heap->Prop} (W:Walks prog w A.in1 I fp wr n P St) (bt:Nat->Nat->Bool) (hc:CmpOf prog w A.in1 .Gt P bt)
  (S:Addr) (hS:S∉fp) (dk:Str) (d:Value) (h0:Heap) (s0:Shared)
  (hR0:n=0->∀h' tk,(∀b o,b∉wr->b≠S->h0.get? b=some o->h'.get? b=some o)->R (.ok (.ret d)) {s0 with heap:=h',toks:=tk})
  (hR:0<n->∀v h' tk,P (argBest bt (n-1)) v->(∀b o,b∉wr->b≠S->h0.get? b=some o->h'.get? b=some o)->R (.ok (.ret v)) {s0 with heap:=h',toks:=tk}) :
  ∀(k j:Nat) (h:Heap) (tk:Nat),n-j=k->j<=n->St j h->(∀b o,b∉wr->b≠S->h0.get? b=some o->h.get? b=some o) ->
   ((j=0/\∃c,h.get? S=some {cls:=.type "list",data:=.seq #[] c})\/(0<j/\∃vb c,P (argBest bt (j-1)) vb/\h.get? S=some {cls:=.type "list",data:=.seq #[vb,vb] c})) ->
   codeAny (model prog w) A (.builtin "max.loop" {pos:=[.ref I,.none,.ref S],kw:=[(dk,d)]}) R {s0 with heap:=h,toks:=tk}:=by
 intro k
 induction k with
 |zero =>
  intro j h tk hk hj hst keep hb
  refine codeAny_builtin F.entry_max_loop ?_
  have hjn:j=n:=by omega
  subst hjn
  rcases hb with⟨hj0,c,hb⟩|⟨hj0,vb,c,hvb,hb⟩
  ·show wpAny _ _ (_ >>= _) _ _ _
   refine Ya (wpAny_seqItems hb rfl ?_)
   refine Ya (wpAny_tryCatch (W.done _ _ _ hst λh' tk' kp=>?_))
   refine Ya (wpAny_rule (Ye ?_))
   exact hR0 hj0 h' tk' λb o hb1 hb2 e=>kp b o hb1 (keep b o hb1 hb2 e)
  ·show wpAny _ _ (_ >>= _) _ _ _
   refine Ya (wpAny_seqItems hb rfl ?_)
   refine Ya (wpAny_tryCatch (W.done _ _ _ hst λh' tk' kp=>?_))
   have hS':S∉wr:=λz=>hS (W.sub S z)
   have hb':=kp S _ hS' hb
   refine Ya (wpAny_updateSeq hb' rfl ?_ (show 2<=sizeLine by decide) (Ym _))
   refine Ya (wpAny_letGo (Ye ?_))
   refine hR hj0 vb _ tk' hvb λb o hb1 hb2 e=>?_
   exact(Heap.get?_update_other _ _ (Ne.symm hb2)).trans (kp b o hb1 (keep b o hb1 hb2 e))
 |succ k ih =>
  intro j h tk hk hj hst keep hb
  refine codeAny_builtin F.entry_max_loop ?_
  have hjn:j<n:=by omega
  have hS':S∉wr:=λz=>hS (W.sub S z)
  rcases hb with⟨hj0,c,hb⟩|⟨hj0,vb,c,hvb,hb⟩
  ·show wpAny _ _ (_ >>= _) _ _ _
   refine Ya (wpAny_seqItems hb rfl ?_)
   refine Ya (wpAny_tryCatch (W.item j _ _ _ hjn hst λv h' tk' hv hst' kp=>?_))
   have hb':=kp S _ hS' hb
   refine Ya (Ye ?_)
   refine Ya (wpAny_updateSeq hb' rfl ?_ (Ym _) (show 2<=sizeLine+1 by decide))
   refine Ye ⟨rfl,?_⟩
   have e9:=PySem.IsL.update hb' (λ_=>#[v,v])
   refine ih (j+1) _ tk' (by omega) (by omega) (W.frame _ _ _ hst' λb hb1 o e=>?_) (λb o hb1 hb2 e=>?_) (.inr ⟨by omega,v,_,?_,e9⟩)
   ·exact(Heap.get?_update_other _ _ (show S≠b from λz=>hS (by rw[z];exact hb1))).trans e
   ·exact(Heap.get?_update_other _ _ (Ne.symm hb2)).trans (kp b o hb1 (keep b o hb1 hb2 e))
   ·rw[hj0];rw[hj0]at hv;exact hv
  ·show wpAny _ _ (_ >>= _) _ _ _
   refine Ya (wpAny_seqItems hb rfl ?_)
   refine Ya (wpAny_tryCatch (W.item j _ _ _ hjn hst λv h' tk' hv hst' kp=>?_))
   have hb':=kp S _ hS' hb
   obtain⟨j',rfl⟩:∃j',j=j'+1:=⟨j-1,by omega⟩
   have hvb':P (argBest bt j') vb:=hvb
   have eA:argBest bt (j'+1)=if bt (j'+1) (argBest bt j')=true then j'+1 else argBest bt j':=rfl
   refine Ya (Ye ?_)
   refine Ya (wpAny_tryCatch (wpAny_holding (Ya (hc (j'+1) (argBest bt j') v vb _ _ _ hv hvb' (Ya (wpAny_holding (wpAny_truthy_bool (Ya (wpAny_letGo (Ye ?_))))))))))
   by_cases z:bt (j'+1) (argBest bt j')=true
   ·rw[Yc z]
    refine Ya (wpAny_updateSeq hb' rfl ?_ (show 2<=sizeLine by decide) (show 2<=sizeLine+1 by decide))
    refine Ya (wpAny_letGo (Ye ⟨rfl,?_⟩))
    have e9:=PySem.IsL.update hb' (λ_=>#[v,v])
    refine ih (j'+1+1) _ tk' (by omega) (by omega) (W.frame _ _ _ hst' λb hb1 o e=>?_) (λb o hb1 hb2 e=>?_) (.inr ⟨by omega,v,_,?_,e9⟩)
    ·exact(Heap.get?_update_other _ _ (show S≠b from λz=>hS (by rw[z];exact hb1))).trans e
    ·exact(Heap.get?_update_other _ _ (Ne.symm hb2)).trans (kp b o hb1 (keep b o hb1 hb2 e))
    ·show P (argBest bt (j'+1)) v
     rw[eA,Yc z];exact hv
   ·rw[Yb z]
    refine Ya (wpAny_letGo (Ye ⟨rfl,?_⟩))
    refine ih (j'+1+1) _ tk' (by omega) (by omega) hst' (λb o hb1 hb2 e=>kp b o hb1 (keep b o hb1 hb2 e)) (.inr ⟨by omega,vb,_,?_,hb'⟩)
    show P (argBest bt (j'+1)) vb
    rw[eA,Yb z];exact hvb'
theorem ZiW (a d:Value):argsOk "max" {pos:=[a],kw:=[("default",d)]}:=by first|rfl|decide
theorem Zm7 {prog:Program}{w:World}{A:Around}{E Q:Value->Shared->Prop}{s:Shared}{l:Addr}{xs:Array (Int×Tok)}{d:Value} (hA:A.handled=none) (hl:s.heap.IsList l (intItems xs))
  (q0:xs.size=0->∀h' tk,(∀b o,s.heap.get? b=some o->h'.get? b=some o)->Q d {s with heap:=h',toks:=tk})
  (q1:0<xs.size->∀v h' tk,(intItems xs)[argBest (λi j=>decide (numAt xs i>numAt xs j)) (xs.size-1)]?=some v->(∀b o,s.heap.get? b=some o->h'.get? b=some o)->Q v {s with heap:=h',toks:=tk}) :
  wpAny (model prog w) A (call (.builtin "max") [.ref l] [("default",d)]) Q E s:=by
 refine wpAny_call (codeAny_call_builtin_code rfl ?_)
 have hck:checkBuiltinCall "max" {pos:=[.ref l],kw:=[("default",d)]}=pure ():=by
  unfold checkBuiltinCall
  rw[F.kind_max]
  exact ZiW (.ref l) d
 rw[hck]
 refine Ye (codeAny_builtin F.entry_max ?_)
 show wpAny _ _ (_ >>= _) _ _ _
 have hbp:Builtin.Builtins.bindParams "max" ["key","default"] 0 {kw:=[("default",d)]}=pure [none,some d]:=by
  first|rfl|with_unfolding_all rfl|(simp[Builtin.Builtins.bindParams];done)
 refine Ya (wpAny_of_eq hbp (Ya (Ye (Ya (wpAny_pyIter_list hl ?_)))))
 refine Ya (wpAny_newObj_type ?_)
 refine Ye ⟨rfl,?_⟩
 have hlt:l<s.heap.objs.size:=by obtain⟨o,e,_⟩:=hl;exact Yj e
 have n1:l≠s.heap.objs.size:=Yl hlt
 have esz:(s.heap.push {cls:=.type "list_iterator",data:=.fields #[.ref l,.int 0 0]}).objs.size=s.heap.objs.size+1:=Heap.size_push _ _
 have old:∀b o,s.heap.get? b=some o->((s.heap.push {cls:=.type "list_iterator",data:=.fields #[.ref l,.int 0 0]}).push {cls:=.type "list",data:=.seq #[]}).get? b=some o:=λb o e=>Yk _ (Yk _ e)
 have ne:∀b o,s.heap.get? b=some o->b∉[s.heap.objs.size]/\b≠(s.heap.push {cls:=.type "list_iterator",data:=.fields #[.ref l,.int 0 0]}).objs.size:=λb o e=>by
  have:=Yj e
  refine⟨λz=>?_,λz=>?_⟩
  ·have:b=s.heap.objs.size:=by simpa using z
   exact absurd (Yj e) (by rw[this];exact YB _)
  ·rw[z,esz]at this
   exact absurd this (Nat.not_lt_of_le (YW _))
 have W:=Walks.list (prog:=prog) (w:=w) (A:=A.in1) hA s.heap.objs.size l n1 (intItems xs)
 have hitm:(intItems xs).size=xs.size:=by simp[intItems]
 refine ZiV W (λi j=>decide (numAt xs i>numAt xs j)) (CmpOf.ints_gt (numAt xs) λi v h=>intItems_at h) _ ?_ "default" d _ s (λz h' tk kp=>?_) (λz v h' tk hv kp=>?_) (intItems xs).size 0 _ _ rfl (Ym _) ⟨?_,?_⟩ (λb o _ _ e=>e) (.inl ⟨rfl,_,Yp _ rfl⟩)
 ·rw[esz]
  simp only[Yo,List.not_mem_nil,or_false,not_or]
  exact⟨Nat.ne_of_gt (Nat.lt_succ_self _),Nat.ne_of_gt (YL hlt)⟩
 ·exact q0 (by omega) h' tk λb o e=>kp b o (ne b o e).1 (ne b o e).2 (old b o e)
 ·exact q1 (by omega) v h' tk (by rw[<-hitm];exact hv) λb o e=>kp b o (ne b o e).1 (ne b o e).2 (old b o e)
 ·exact⟨_,Yk _ (Yp _ rfl),rfl,rfl⟩
 ·obtain⟨o,e,r⟩:=hl
  exact⟨o,old _ _ e,r⟩
theorem Zm8 {prog:Program}{w:World}{A:Around}{R:Result->Shared->Prop}{I:Addr}{fp wr:List Addr}{n:Nat}{P:Nat->Value->Prop}{St:Nat->Heap->Prop} (W:Walks prog w A.in1 I fp wr n P St) (bt:Nat->Nat->Bool) (hc:CmpOf prog w A.in1 .Lt P bt)
  (S:Addr) (hS:S∉fp) (dk:Str) (d:Value) (h0:Heap) (s0:Shared)
  (hR0:n=0->∀h' tk,(∀b o,b∉wr->b≠S->h0.get? b=some o->h'.get? b=some o)->R (.ok (.ret d)) {s0 with heap:=h',toks:=tk})
  (hR:0<n->∀v h' tk,P (argBest bt (n-1)) v->(∀b o,b∉wr->b≠S->h0.get? b=some o->h'.get? b=some o)->R (.ok (.ret v)) {s0 with heap:=h',toks:=tk}) :
  ∀(k j:Nat) (h:Heap) (tk:Nat),n-j=k->j<=n->St j h->(∀b o,b∉wr->b≠S->h0.get? b=some o->h.get? b=some o) ->
   ((j=0/\∃c,h.get? S=some {cls:=.type "list",data:=.seq #[] c})\/(0<j/\∃vb c,P (argBest bt (j-1)) vb/\h.get? S=some {cls:=.type "list",data:=.seq #[vb,vb] c})) ->
   codeAny (model prog w) A (.builtin "min.loop" {pos:=[.ref I,.none,.ref S],kw:=[(dk,d)]}) R {s0 with heap:=h,toks:=tk}:=by
 intro k
 induction k with
 |zero =>
  intro j h tk hk hj hst keep hb
  refine codeAny_builtin F.entry_min_loop ?_
  have hjn:j=n:=by omega
  subst hjn
  rcases hb with⟨hj0,c,hb⟩|⟨hj0,vb,c,hvb,hb⟩
  ·show wpAny _ _ (_ >>= _) _ _ _
   refine Ya (wpAny_seqItems hb rfl ?_)
   refine Ya (wpAny_tryCatch (W.done _ _ _ hst λh' tk' kp=>?_))
   refine Ya (wpAny_rule (Ye ?_))
   exact hR0 hj0 h' tk' λb o hb1 hb2 e=>kp b o hb1 (keep b o hb1 hb2 e)
  ·show wpAny _ _ (_ >>= _) _ _ _
   refine Ya (wpAny_seqItems hb rfl ?_)
   refine Ya (wpAny_tryCatch (W.done _ _ _ hst λh' tk' kp=>?_))
   have hS':S∉wr:=λz=>hS (W.sub S z)
   have hb':=kp S _ hS' hb
   refine Ya (wpAny_updateSeq hb' rfl ?_ (show 2<=sizeLine by decide) (Ym _))
   refine Ya (wpAny_letGo (Ye ?_))
   refine hR hj0 vb _ tk' hvb λb o hb1 hb2 e=>?_
   exact(Heap.get?_update_other _ _ (Ne.symm hb2)).trans (kp b o hb1 (keep b o hb1 hb2 e))
 |succ k ih =>
  intro j h tk hk hj hst keep hb
  refine codeAny_builtin F.entry_min_loop ?_
  have hjn:j<n:=by omega
  have hS':S∉wr:=λz=>hS (W.sub S z)
  rcases hb with⟨hj0,c,hb⟩|⟨hj0,vb,c,hvb,hb⟩
  ·show wpAny _ _ (_ >>= _) _ _ _
   refine Ya (wpAny_seqItems hb rfl ?_)
   refine Ya (wpAny_tryCatch (W.item j _ _ _ hjn hst λv h' tk' hv hst' kp=>?_))
   have hb':=kp S _ hS' hb
   refine Ya (Ye ?_)
   refine Ya (wpAny_updateSeq hb' rfl ?_ (Ym _) (show 2<=sizeLine+1 by decide))
   refine Ye ⟨rfl,?_⟩
   have e9:=PySem.IsL.update hb' (λ_=>#[v,v])
   refine ih (j+1) _ tk' (by omega) (by omega) (W.frame _ _ _ hst' λb hb1 o e=>?_) (λb o hb1 hb2 e=>?_) (.inr ⟨by omega,v,_,?_,e9⟩)
   ·exact(Heap.get?_update_other _ _ (show S≠b from λz=>hS (by rw[z];exact hb1))).trans e
   ·exact(Heap.get?_update_other _ _ (Ne.symm hb2)).trans (kp b o hb1 (keep b o hb1 hb2 e))
   ·rw[hj0];rw[hj0]at hv;exact hv
  ·show wpAny _ _ (_ >>= _) _ _ _
   refine Ya (wpAny_seqItems hb rfl ?_)
   refine Ya (wpAny_tryCatch (W.item j _ _ _ hjn hst λv h' tk' hv hst' kp=>?_))
   have hb':=kp S _ hS' hb
   obtain⟨j',rfl⟩:∃j',j=j'+1:=⟨j-1,by omega⟩
   have hvb':P (argBest bt j') vb:=hvb
   have eA:argBest bt (j'+1)=if bt (j'+1) (argBest bt j')=true then j'+1 else argBest bt j':=rfl
   refine Ya (Ye ?_)
   refine Ya (wpAny_tryCatch (wpAny_holding (Ya (hc (j'+1) (argBest bt j') v vb _ _ _ hv hvb' (Ya (wpAny_holding (wpAny_truthy_bool (Ya (wpAny_letGo (Ye ?_))))))))))
   by_cases z:bt (j'+1) (argBest bt j')=true
   ·rw[Yc z]
    refine Ya (wpAny_updateSeq hb' rfl ?_ (show 2<=sizeLine by decide) (show 2<=sizeLine+1 by decide))
    refine Ya (wpAny_letGo (Ye ⟨rfl,?_⟩))
    have e9:=PySem.IsL.update hb' (λ_=>#[v,v])
    refine ih (j'+1+1) _ tk' (by omega) (by omega) (W.frame _ _ _ hst' λb hb1 o e=>?_) (λb o hb1 hb2 e=>?_) (.inr ⟨by omega,v,_,?_,e9⟩)
    ·exact(Heap.get?_update_other _ _ (show S≠b from λz=>hS (by rw[z];exact hb1))).trans e
    ·exact(Heap.get?_update_other _ _ (Ne.symm hb2)).trans (kp b o hb1 (keep b o hb1 hb2 e))
    ·show P (argBest bt (j'+1)) v
     rw[eA,Yc z];exact hv
   ·rw[Yb z]
    refine Ya (wpAny_letGo (Ye ⟨rfl,?_⟩))
    refine ih (j'+1+1) _ tk' (by omega) (by omega) hst' (λb o hb1 hb2 e=>kp b o hb1 (keep b o hb1 hb2 e)) (.inr ⟨by omega,vb,_,?_,hb'⟩)
    show P (argBest bt (j'+1)) vb
    rw[eA,Yb z];exact hvb'
theorem Zm9 (a d:Value):argsOk "min" {pos:=[a],kw:=[("default",d)]}:=by first|rfl|decide
theorem Zna {prog:Program}{w:World}{A:Around}{E Q:Value->Shared->Prop}{s:Shared}{l:Addr}{xs:Array (Int×Tok)}{d:Value} (hA:A.handled=none) (hl:s.heap.IsList l (intItems xs))
  (q0:xs.size=0->∀h' tk,(∀b o,s.heap.get? b=some o->h'.get? b=some o)->Q d {s with heap:=h',toks:=tk})
  (q1:0<xs.size->∀v h' tk,(intItems xs)[argBest (λi j=>decide (numAt xs i<numAt xs j)) (xs.size-1)]?=some v->(∀b o,s.heap.get? b=some o->h'.get? b=some o)->Q v {s with heap:=h',toks:=tk}) :
  wpAny (model prog w) A (call (.builtin "min") [.ref l] [("default",d)]) Q E s:=by
 refine wpAny_call (codeAny_call_builtin_code rfl ?_)
 have hck:checkBuiltinCall "min" {pos:=[.ref l],kw:=[("default",d)]}=pure ():=by
  unfold checkBuiltinCall
  rw[F.kind_min]
  exact Zm9 (.ref l) d
 rw[hck]
 refine Ye (codeAny_builtin F.entry_min ?_)
 show wpAny _ _ (_ >>= _) _ _ _
 have hbp:Builtin.Builtins.bindParams "min" ["key","default"] 0 {kw:=[("default",d)]}=pure [none,some d]:=by
  first|rfl|with_unfolding_all rfl|(simp[Builtin.Builtins.bindParams];done)
 refine Ya (wpAny_of_eq hbp (Ya (Ye (Ya (wpAny_pyIter_list hl ?_)))))
 refine Ya (wpAny_newObj_type ?_)
 refine Ye ⟨rfl,?_⟩
 have hlt:l<s.heap.objs.size:=by obtain⟨o,e,_⟩:=hl;exact Yj e
 have n1:l≠s.heap.objs.size:=Yl hlt
 have esz:(s.heap.push {cls:=.type "list_iterator",data:=.fields #[.ref l,.int 0 0]}).objs.size=s.heap.objs.size+1:=Heap.size_push _ _
 have old:∀b o,s.heap.get? b=some o->((s.heap.push {cls:=.type "list_iterator",data:=.fields #[.ref l,.int 0 0]}).push {cls:=.type "list",data:=.seq #[]}).get? b=some o:=λb o e=>Yk _ (Yk _ e)
 have ne:∀b o,s.heap.get? b=some o->b∉[s.heap.objs.size]/\b≠(s.heap.push {cls:=.type "list_iterator",data:=.fields #[.ref l,.int 0 0]}).objs.size:=λb o e=>by
  have:=Yj e
  refine⟨λz=>?_,λz=>?_⟩
  ·have:b=s.heap.objs.size:=by simpa using z
   exact absurd (Yj e) (by rw[this];exact YB _)
  ·rw[z,esz]at this
   exact absurd this (Nat.not_lt_of_le (YW _))
 have W:=Walks.list (prog:=prog) (w:=w) (A:=A.in1) hA s.heap.objs.size l n1 (intItems xs)
 have hitm:(intItems xs).size=xs.size:=by simp[intItems]
 refine Zm8 W (λi j=>decide (numAt xs i<numAt xs j)) (CmpOf.ints_lt (numAt xs) λi v h=>intItems_at h) _ ?_ "default" d _ s (λz h' tk kp=>?_) (λz v h' tk hv kp=>?_) (intItems xs).size 0 _ _ rfl (Ym _) ⟨?_,?_⟩ (λb o _ _ e=>e) (.inl ⟨rfl,_,Yp _ rfl⟩)
 ·rw[esz]
  simp only[Yo,List.not_mem_nil,or_false,not_or]
  exact⟨Nat.ne_of_gt (Nat.lt_succ_self _),Nat.ne_of_gt (YL hlt)⟩
 ·exact q0 (by omega) h' tk λb o e=>kp b o (ne b o e).1 (ne b o e).2 (old b o e)
 ·exact q1 (by omega) v h' tk (by rw[<-hitm];exact hv) λb o e=>kp b o (ne b o e).1 (ne b o e).2 (old b o e)
 ·exact⟨_,Yk _ (Yp _ rfl),rfl,rfl⟩
 ·obtain⟨o,e,r⟩:=hl
  exact⟨o,old _ _ e,r⟩
section
variable {X:Cx}
noncomputable def tMaxD (K:Frag) (ta td:TA):TE:=fun σ H Q=>ta σ H λvs H1=>td σ H1 λzs H2=>∃(p:Addr) (ns:List Int) (d:Int),vs=[.ref p]/\zs=[.int d]/\SqL K H2 p (ns.map V.int)/\(ns=[]->Q (.int d) H2)/\(ns≠[]->∀m,m∈ns->(∀a∈ns,a<=m)->Q (.int m) H2)
theorem Zqw {K:Frag}{e:Expr}{kws:List Keyword}{ta td:TA}{p pos:Pos} (hK:X.K=K) (hc:X.calm=true) (hg:Gl X "max") (hm:X.mg "max"=none) (ha:PA X [e] ta) (hd:PK X kws td)
  (he:starEach [e] X.env=(false,eval e X.env)::starEach [] X.env:=by rfl) (hpl:(backTo pos (starEach [e] X.env)).any (·.1)=false:=by rfl) (hall:(backToKw pos (keywordEach kws X.env)).all (·.1.isSome)=true:=by rfl)
  (hnn:(backToKw pos (keywordEach kws X.env)).any (·.1.isNone)=false:=by rfl) (hks:(backToKw pos (keywordEach kws X.env)).filterMap (·.1)=[(("default":String):Str)]:=by rfl) (hb:backTo pos (starEach [e] X.env)=(false,eval e X.env)::backTo pos (starEach [] X.env):=by rfl) :
  PE X (.Call (.Name "max" p) [e] kws pos) (tMaxD K ta td):=by
 subst hK
 intro pins s σ H Q I h
 refine wpAny_Call_Name_kw (Zbc I hg hm Zht ?_)
 refine PyProof.Rows.callWith_kw (thn (ha pos pins s σ H _ I h) λus s1 ⟨vs,H1,I1,r1,q1⟩=>?_) hb hpl hall hnn
 refine thn (hd pos pins s1 σ H1 _ I1 q1) λws s2 ⟨zs,H2,I2,r2,pp,ns,d,e1,e2,hp,q0,qm⟩=>?_
 subst e1 e2
 obtain⟨u,rfl,ru⟩:=r1.one
 obtain⟨v,rfl,rv⟩:=r2.one
 cases(show u=Value.ref pp from ru)
 rw[hks]
 obtain⟨its,rr,pl,hz⟩:=I2.list hp
 obtain⟨ys,e1,e2⟩:=Zfp rr
 have hsz:ys.size=ns.length:=by
  have:=congrArg List.length e2
  rw[Yi,YO]at this
  exact this
 refine Zm7 (xs:=ys) (I2.ok.hd hc) (e1▸pl.isList) (λz h' tk k=>?_) (λz v' h' tk hv k=>?_)
 ·exact⟨.int d,H2,I2.kept k,rv,q0 (List.length_eq_zero_iff.mp (by omega))⟩
 ·obtain⟨t,rfl⟩:=intItems_at hv
  obtain⟨h1,h2⟩:=argBest_gt (numAt ys) (ys.size-1)
  refine⟨.int _,H2,I2.kept k,⟨t,rfl⟩,qm (λy=>by have h3:ys.size=0:=(by rw[hsz,y];rfl);omega) _ ?_ λa ha=>?_⟩
  ·rw[numAt_eq,e2];exact getD_mem (by omega)
  ·obtain⟨j,hj,rfl⟩:=mem_getD ha
   rw[<-e2,<-numAt_eq];exact h2 j (by omega)
end
section
variable {X:Cx}
noncomputable def tMinD (K:Frag) (ta td:TA):TE:=fun σ H Q=>ta σ H λvs H1=>td σ H1 λzs H2=>∃(p:Addr) (ns:List Int) (d:Int),vs=[.ref p]/\zs=[.int d]/\SqL K H2 p (ns.map V.int)/\(ns=[]->Q (.int d) H2)/\(ns≠[]->∀m,m∈ns->(∀a∈ns,m<=a)->Q (.int m) H2)
theorem Zqx {K:Frag}{e:Expr}{kws:List Keyword}{ta td:TA}{p pos:Pos} (hK:X.K=K) (hc:X.calm=true) (hg:Gl X "min") (hm:X.mg "min"=none) (ha:PA X [e] ta) (hd:PK X kws td)
  (he:starEach [e] X.env=(false,eval e X.env)::starEach [] X.env:=by rfl) (hpl:(backTo pos (starEach [e] X.env)).any (·.1)=false:=by rfl) (hall:(backToKw pos (keywordEach kws X.env)).all (·.1.isSome)=true:=by rfl)
  (hnn:(backToKw pos (keywordEach kws X.env)).any (·.1.isNone)=false:=by rfl) (hks:(backToKw pos (keywordEach kws X.env)).filterMap (·.1)=[(("default":String):Str)]:=by rfl) (hb:backTo pos (starEach [e] X.env)=(false,eval e X.env)::backTo pos (starEach [] X.env):=by rfl) :
  PE X (.Call (.Name "min" p) [e] kws pos) (tMinD K ta td):=by
 subst hK
 intro pins s σ H Q I h
 refine wpAny_Call_Name_kw (Zbc I hg hm Zhu ?_)
 refine PyProof.Rows.callWith_kw (thn (ha pos pins s σ H _ I h) λus s1 ⟨vs,H1,I1,r1,q1⟩=>?_) hb hpl hall hnn
 refine thn (hd pos pins s1 σ H1 _ I1 q1) λws s2 ⟨zs,H2,I2,r2,pp,ns,d,e1,e2,hp,q0,qm⟩=>?_
 subst e1 e2
 obtain⟨u,rfl,ru⟩:=r1.one
 obtain⟨v,rfl,rv⟩:=r2.one
 cases(show u=Value.ref pp from ru)
 rw[hks]
 obtain⟨its,rr,pl,hz⟩:=I2.list hp
 obtain⟨ys,e1,e2⟩:=Zfp rr
 have hsz:ys.size=ns.length:=by
  have:=congrArg List.length e2
  rw[Yi,YO]at this
  exact this
 refine Zna (xs:=ys) (I2.ok.hd hc) (e1▸pl.isList) (λz h' tk k=>?_) (λz v' h' tk hv k=>?_)
 ·exact⟨.int d,H2,I2.kept k,rv,q0 (List.length_eq_zero_iff.mp (by omega))⟩
 ·obtain⟨t,rfl⟩:=intItems_at hv
  obtain⟨h1,h2⟩:=argBest_lt (numAt ys) (ys.size-1)
  refine⟨.int _,H2,I2.kept k,⟨t,rfl⟩,qm (λy=>by have h3:ys.size=0:=(by rw[hsz,y];rfl);omega) _ ?_ λa ha=>?_⟩
  ·rw[numAt_eq,e2];exact getD_mem (by omega)
  ·obtain⟨j,hj,rfl⟩:=mem_getD ha
   rw[<-e2,<-numAt_eq];exact h2 j (by omega)
end
noncomputable def Zg4 (ns:List Int) (a c:Nat):List Int:=(ns.drop a).take c
theorem Zot {ns:List Int}{a c:Nat} (h:a+c<=ns.length):(Zg4 ns a c).length=c:=by
 unfold Zg4;rw[YX,Ja];omega
theorem Zou {ns:List Int}{a c i:Nat} (h:i<c):nth (Zg4 ns a c) i=nth ns (a+i):=by
 simp[nth,Zg4,Yg,List.getElem?_take,List.getElem?_drop,h]
section
variable {X:Cx}
theorem Znb:bootBuiltins "sorted"=some (.builtin "sorted"):=by decide +kernel
end
section
variable {prog:Program}{w:World}{A:Around}{E Q:Value->Shared->Prop}{s:Shared}{it t:Addr}{i:Nat}{items:Array Value}
theorem ZfA {x:Value} (hi:s.heap.IsTupleIter it t i) (ht:s.heap.IsTuple t items) (hx:items[i]?=some x) (h:∀h',h'.IsTupleIter it t (i+1)->Heap.SameBut it s.heap h'->Q x {s with heap:=h'}):wpAny (model prog w) A (Builtin.SmallTypes.nextOf (.ref it)) Q E s:=by
 obtain⟨o,ho,hc,hd⟩:=id hi
 obtain⟨ot,hot,hct,n,hdt⟩:=id ht
 have hT:s.TypeIs (.ref it) "tuple_iterator":=⟨o,ho,hc⟩
 unfold Builtin.SmallTypes.nextOf
 refine Ya (wpAny_callSpecial?_slot hT F.slot_tuple_iterator_next (wpAny_call_entry F.slot_tuple_iterator_next hT F.entry_tuple_iterator_next ?_ (F.args_tuple_iterator_next_1 _)))
 show wpAny _ _ (_ >>= _) _ _ _
 refine Ya (wpAny_of_eq (show slotArgs "__next__" 0 {pos:=[.ref it]}=pure (.ref it,[])from rfl) ?_)
 refine Ya (wpAny_field ho hd (x:=.ref t) rfl ?_)
 rw[Yb (by simp)]
 refine Ya (wpAny_field ho hd (x:=.int (i:Int) 0) rfl ?_)
 refine Ya (wpAny_seqItems hot hdt ?_)
 dsimp only
 rw[YZ,hx]
 refine Ya (wpAny_setField ho hd (by show 1<2;decide) (Ye ⟨x,rfl,?_⟩))
 refine Ye (h _ ?_ ⟨by simp,λb hb=>Heap.get?_update_other _ _ (Ne.symm hb)⟩)
 obtain⟨cls,dict,data,slots⟩:=o
 simp only at hc hd
 subst hc hd
 exact⟨_,Heap.get?_update_self _ ho rfl,rfl,rfl⟩
theorem Zf7 (hA:A.handled=none) (hi:s.heap.IsTupleIter it t i) (ht:s.heap.IsTuple t items) (hx:items[i]?=none) (h:∀h' e,Heap.ExtBut it s.heap h'->(∃o,h'.get? e=some o/\o.cls=.type "StopIteration")->E (.ref e) {s with heap:=h'}):wpAny (model prog w) A (Builtin.SmallTypes.nextOf (.ref it)) Q E s:=by
 obtain⟨o,ho,hc,hd⟩:=id hi
 obtain⟨ot,hot,hct,n,hdt⟩:=id ht
 have hT:s.TypeIs (.ref it) "tuple_iterator":=⟨o,ho,hc⟩
 unfold Builtin.SmallTypes.nextOf
 refine Ya (wpAny_callSpecial?_slot hT F.slot_tuple_iterator_next (wpAny_call_entry F.slot_tuple_iterator_next hT F.entry_tuple_iterator_next ?_ (F.args_tuple_iterator_next_1 _)))
 show wpAny _ _ (_ >>= _) _ _ _
 refine Ya (wpAny_of_eq (show slotArgs "__next__" 0 {pos:=[.ref it]}=pure (.ref it,[])from rfl) ?_)
 refine Ya (wpAny_field ho hd (x:=.ref t) rfl ?_)
 rw[Yb (by simp)]
 refine Ya (wpAny_field ho hd (x:=.int (i:Int) 0) rfl ?_)
 refine Ya (wpAny_seqItems hot hdt ?_)
 dsimp only
 rw[YZ,hx]
 refine Ya (wpAny_rule (Ya (wpAny_setField ho hd (by show 0<2;decide) ?_)))
 unfold Builtin.SmallTypes.stopIteration
 refine Ya ?_
 unfold newExc
 refine Ya (wpAny_newTuple ?_ (Ym _))
 refine Ya (wpAny_of_eq (show firstArgMember (.type "StopIteration") []=pure .none by first|rfl|(unfold firstArgMember;rfl)) ?_)
 refine wpAny_newObj_type (wpAny_raiseNew_none hA (h _ _ (λb o' hb e=>?_) ⟨_,Yp _ rfl,rfl⟩))
 exact Yk _ (Yk _ ((Heap.get?_update_other _ _ (Ne.symm hb)).trans e))
theorem ZgB (hA:A.handled=none) (it t:Addr) (hne:t≠it) (items:Array Value):Draws prog w A it [it,t] items.size (λi v=>items[i]?=some v) (λi h=>h.IsTupleIter it t i/\h.IsTuple t items) where
 live:=λi h st=>by obtain⟨⟨o,ho,_⟩,_⟩:=st;exact⟨o,ho⟩
 frame:=λi h h' st k=>by
  obtain⟨⟨o,ho,r⟩,⟨ot,hot,rt⟩⟩:=st
  exact⟨⟨o,k it (by simp) o ho,r⟩,⟨ot,k t (by simp) ot hot,rt⟩⟩
 item:=λi s Q E hi st h=>by
  obtain⟨ot,hot,rt⟩:=st.2
  refine ZfA st.1 st.2 (Array.getElem?_eq_getElem hi) λh' hit hs=>h _ h' s.toks (Array.getElem?_eq_getElem hi) ⟨hit,⟨ot,(hs.2 t hne).trans hot,rt⟩⟩ hs
 done:=λs Q E st h=>Zf7 hA st.1 st.2 (Array.getElem?_eq_none (Yd _)) h
end
section
variable {X:Cx}{pins:List (Addr×Obj)}{σ:St}{H:Hp}{s:Shared}{h':Heap}
noncomputable def IteT (K : Frag) (a : Addr) : It :=
  ⟨fun i H => ∃ xs x, SqT K H a xs ∧ xs[i]? = some x,
   fun i H v H' => ∃ p x, H p = none ∧ v = .ref p ∧ H' = upd H p (.tup [.int (i : Int), x]) ∧ ∀ xs, SqT K H a xs → xs[i]? = some x,
   fun i H => ∃ xs, SqT K H a xs ∧ xs.length = i⟩
theorem Zlu {P:Program}{w:World}{K:Frag}{elts:List Expr} {x1}{pos:Pos}{a e it:Addr} (h1:e≠it) (h2:a≠e) (h3:a≠it) :
  Turn P w K (.Tuple elts x1 pos) (IteT K a) [e,it] e (λi h=>(∃old,IsEnum h e it (i:Int) old)/\h.IsTupleIter it a i) where
 mem:=by simp
 obj:=λi h st c hc=>by
  obtain⟨⟨old,q1⟩,⟨o4,q4,_,d4⟩⟩:=st
  simp at hc
  rcases hc with rfl|rfl
  ·exact⟨_,q1,λv z=>by cases z⟩
  ·exact⟨_,q4,λv z=>by rw[d4]at z;cases z⟩
 keep:=λi h h' st k=>by
  obtain⟨⟨old,q1⟩,⟨o,ho,r⟩⟩:=st
  exact⟨⟨old,k e (by simp) _ q1⟩,⟨o,k it (by simp) o ho,r⟩⟩
 item:=by
  intro X hP hw hK hc i pins s σ H E I hf st hg
  subst hP hw hK
  obtain⟨xs,x,qa,hx⟩:=hg
  obtain⟨is1,r1,p1,hz1⟩:=I.tuple qa
  obtain⟨u,hu,ru⟩:=r1.get hx
  have W:=WalksT.enumerateD (prog:=X.prog) (w:=X.w) (A:=X.A) (ZgB (A:=X.A.in1) (I.ok.hd hc) it a h3 is1.toArray) e h1 (by simp;exact⟨h1,h2.symm⟩) (by simp)
  have hi:i<is1.toArray.size:=by
   have:=(Yr.mp hu).1
   simpa using this
  refine W.item i s _ E hi ⟨st.1,st.2,p1⟩ λT vals h' tk Pt hT hTup Mid keep=>⟨_,rfl,W.go elts x1 pos i T _ _ E Mid λh2' St2 keep2=>?_⟩
  obtain⟨t,y,hy,rfl⟩:=Pt
  have hyu:y=u:=by
   have:is1[i]?=some y:=by simpa using hy
   rw[hu]at this;exact(Yy this).symm
  subst hyu
  have nT:=W.apart i T h' Mid
  have hfr:H T=none:=I.hok.fresh hT
  have kk:∀b o,b∉[e,it]->s.heap.get? b=some o->h2'.get? b=some o:=λb o hb q=>keep2 b o hb (keep b o hb q)
  have nTe:∀c∈[e,it],c≠T:=λc hc z=>nT (z▸hc)
  refine⟨.ref T,_,Inv.Zjx (s:=s) (t':=tk) (o:=.tup [.int (i:Int),x]) I kk hf hT ?_,rfl,⟨T,x,hfr,rfl,rfl,λxs' q'=>?_⟩,⟨?_,St2.2.1⟩,λc hc=>?_⟩
  ·obtain⟨oT,q1,q2,n,q3⟩:=hTup
   exact⟨by show 2<=sizeLine;decide,[.int (i:Int) t,y],.cons ⟨t,rfl⟩ (.cons ru .nil),⟨oT,keep2 T oT nT q1,q2,n,q3⟩⟩
  ·rw[I.ZfY q' qa];exact hx
  ·obtain⟨old,q⟩:=St2.1
   exact⟨old,by rw[show(((i+1:Nat)):Int)=(i:Int)+1 by omega]at *;exact q⟩
  ·rw[Zh (nTe c hc)];exact(hf c hc).1
 done:=by
  intro X hP hw hK hc i pins s σ H E I hf st hg
  subst hP hw hK
  obtain⟨xs,qa,hx⟩:=hg
  obtain⟨is1,r1,p1,_⟩:=I.tuple qa
  have W:=WalksT.enumerateD (prog:=X.prog) (w:=X.w) (A:=X.A) (ZgB (A:=X.A.in1) (I.ok.hd hc) it a h3 is1.toArray) e h1 (by simp;exact⟨h1,h2.symm⟩) (by simp)
  have hi:i=is1.toArray.size:=by
   have:=r1.length
   simp;omega
  refine W.done s _ E ?_ λh' tk keep=>⟨rfl,I.Zjq (t':=tk) (fp:=[e,it]) (λc o hc q=>keep c o hc q) hf⟩
  rw[<-hi]
  exact⟨st.1,st.2,p1⟩
 self:=λA i s Q E st h=>by
  obtain⟨⟨old,q⟩,_⟩:=st
  exact wpAny_pyIter_enum q h
theorem ZhD {M:Model}{A:Around}{E:Value->Shared->Prop}{s:Shared} (cls:Value):wpAny M A (Builtin.SmallTypes.calledThroughType cls) (λ_ s'=>s'=s) E s:=by
 unfold Builtin.SmallTypes.calledThroughType
 exact Ya (wpAny_stack λst _ _ _=>Ye rfl)
theorem Zkw {prog:Program}{w:World} (l:Addr) (items:Array Value):MeetsIn prog w (Builtin.«enumerate.__new__» {pos:=[.type "enumerate",.ref l]}) λA R s=>s.heap.IsTuple l items/\R (.ok (.ret (.ref (s.heap.objs.size+1)))) {s with heap:=(s.heap.push {cls:=.type "tuple_iterator",data:=.fields #[.ref l,.int 0 0]}).push {cls:=.type "enumerate",data:=.fields #[.none,.bool false,.ref s.heap.objs.size,rawInt 0,.none,.none]}}:=by
 intro A R s ⟨h,hR⟩
 unfold Builtin.«enumerate.__new__»
 refine Ya (wpAny_of_eq (show Builtin.SmallTypes.newClass "enumerate" {pos:=[.type "enumerate",.ref l]}=pure (.type "enumerate",[.ref l])from by first|rfl|(unfold Builtin.SmallTypes.newClass;rfl)) ?_)
 show wpAny _ _ (_ >>= _) _ _ _
 have hsz:(s.heap.push {cls:=.type "tuple_iterator",data:=.fields #[.ref l,.int 0 0]}).objs.size=s.heap.objs.size+1:=Heap.size_push _ _
 refine Ya (thn (ZhD (.type "enumerate")) λb s' e=>?_)
 subst e
 cases b with
 |true =>
  show wpAny _ _ (_ >>= _) _ _ _
  refine Ya (wpAny_of_eq (show _=pure (.ref l,none)from rfl) ?_)
  show wpAny _ _ (_ >>= _) _ _ _
  refine Ya (wpAny_pyIter_tuple h ?_)
  show wpAny _ _ (newObj (.type "enumerate") (.fields #[.none,.bool false,.ref s'.heap.objs.size,rawInt 0,.none,.none]) >>= _) _ _ _
  refine Ya (wpAny_newObj_type (Ye ?_))
  rw[hsz];exact hR
 |false =>
  show wpAny _ _ (_ >>= _) _ _ _
  refine Ya (wpAny_of_eq (show _=pure (.ref l,none)from rfl) ?_)
  show wpAny _ _ (_ >>= _) _ _ _
  refine Ya (wpAny_pyIter_tuple h ?_)
  show wpAny _ _ (newObj (.type "enumerate") (.fields #[.none,.bool false,.ref s'.heap.objs.size,rawInt 0,.none,.none]) >>= _) _ _ _
  refine Ya (wpAny_newObj_type (Ye ?_))
  rw[hsz];exact hR
noncomputable def iEnumT (K:Frag) (ta:TA):TI:=fun σ H R=>ta σ H λvs H1=>∃a xs,vs=[.ref a]/\SqT K H1 a xs/\R (IteT K a) H1
theorem ZhE {K:Frag}{elts:List Expr} {x1}{tp:Pos}{e1:Expr}{ta:TA}{p pos:Pos} (hK:X.K=K) (hg:Gl X "enumerate") (hm:X.mg "enumerate"=none) (ha:PA X [e1] ta) (hs:starEach [e1] X.env=[(false,eval e1 X.env)]:=by rfl) :
  PI X (.Tuple elts x1 tp) (.Call (.Name "enumerate" p) [e1] [] pos) (iEnumT K ta):=by
 subst hK
 intro pins s σ H R I h
 refine wpAny_Call_Name_kw (Zbc I hg hm ZeW ?_)
 refine PyProof.Rows.callWith_type1 (thn (ha pos pins s σ H _ I h) λus s1 ⟨vs,H1,I1,r1,a,xs,e1,qa,q⟩=>?_) hs rfl
 subst e1
 obtain⟨u,rfl,ru⟩:=r1.one
 cases(show u=Value.ref a from ru)
 obtain⟨is1,rr1,p1,_⟩:=I1.tuple qa
 have l1:a<s1.heap.objs.size:=by obtain⟨o,e,_⟩:=p1;exact Yj e
 have sm:∀b,s1.heap.objs.size<=b->FpOk X pins H1 b:=λb hb=>I1.Zjh hb (I1.hok.fresh hb)
 have n1:s1.heap.objs.size+1≠s1.heap.objs.size:=by show ¬ ((_:Nat)=_);omega
 have n2:a≠s1.heap.objs.size+1:=Yl (YL l1)
 have n3:a≠s1.heap.objs.size:=Yl l1
 have T:=Zlu (P:=X.prog) (w:=X.w) (K:=X.K) (elts:=elts) (x1:=x1) (pos:=tp) n1 n2 n3
 have hsz:(s1.heap.push {cls:=.type "tuple_iterator",data:=.fields #[.ref a,.int 0 0]}).objs.size=s1.heap.objs.size+1:=Heap.size_push _ _
 have c1:IsEnum ((s1.heap.push {cls:=.type "tuple_iterator",data:=.fields #[.ref a,.int 0 0]}).push {cls:=.type "enumerate",data:=.fields #[.none,.bool false,.ref s1.heap.objs.size,rawInt 0,.none,.none]}) (s1.heap.objs.size+1) s1.heap.objs.size 0 .none:=by
  show Heap.get? _ _=_
  rw[<-hsz];exact Yp _ rfl
 have c2:((s1.heap.push {cls:=.type "tuple_iterator",data:=.fields #[.ref a,.int 0 0]}).push {cls:=.type "enumerate",data:=.fields #[.none,.bool false,.ref s1.heap.objs.size,rawInt 0,.none,.none]}).IsTupleIter s1.heap.objs.size a 0:=⟨_,Yk _ (Yp _ rfl),rfl,rfl⟩
 refine callType_newIn F.called_enumerate rfl (by first|rfl|decide) (F.newCall_enumerate_1 _) (λobj=>by first|rfl|decide) F.entry_enumerate_new (Zkw a is1.toArray) ⟨p1,⟨_,c1,rfl⟩,?_⟩
 refine T.self _ 0 _ _ _ ⟨⟨_,c1⟩,c2⟩ ?_
 refine⟨_,[s1.heap.objs.size+1,s1.heap.objs.size],_,_,H1,rfl,I1.kept (t':=s1.toks) (λb o e=>Yk _ (Yk _ e)),T,⟨⟨_,c1⟩,c2⟩,λc hc=>?_,q⟩
 simp at hc
 rcases hc with rfl|rfl<;>exact sm _ (by omega)
end
open Classical in
noncomputable def Zax (f:Nat->Int) (p:Nat):Int:=if h:∃q,ZU f p q then (Classical.choose h:Nat)else -1
open Classical in
noncomputable def ZaB (f:Nat->Int) (n p:Nat):Int:=if h:∃r,ZO f n p r then (Classical.choose h:Nat)else (n:Int)
theorem ZG {f:Nat->Int}{p q:Nat} (h:ZU f p q):Zax f p=q:=by
 have hx:∃q,ZU f p q:=⟨q,h⟩
 unfold Zax
 rw[dif_pos hx,(Classical.choose_spec hx).unique h]
theorem Zaj {f:Nat->Int}{p:Nat} (h:ZaP f p):Zax f p=-1:=by
 unfold Zax
 rw[dif_neg λ⟨q,hq⟩=>hq.no h]
theorem ZH {f:Nat->Int}{n p r:Nat} (h:ZO f n p r):ZaB f n p=r:=by
 have hx:∃r,ZO f n p r:=⟨r,h⟩
 unfold ZaB
 rw[dif_pos hx,(Classical.choose_spec hx).unique h]
theorem Zac {f:Nat->Int}{n p:Nat} (h:Zaw f n p):ZaB f n p=n:=by
 unfold ZaB
 rw[dif_neg λ⟨q,hq⟩=>hq.no h]
theorem Z5 {f:Nat->Int}{n p:Nat}{e:Int} (h:Zy f n p e):(ZaP f p\/∃q,ZU f p q)/\(Zaw f n p\/∃r,ZO f n p r):=by
 rcases h with⟨h1,h2,_⟩|⟨q,h1,h2,_⟩|⟨r,h1,h2,_⟩|⟨q,r,h1,h2,_⟩
 ·exact⟨.inl h1,.inl h2⟩
 ·exact⟨.inr ⟨q,h1⟩,.inl h2⟩
 ·exact⟨.inl h1,.inr ⟨r,h2⟩⟩
 ·exact⟨.inr ⟨q,h1⟩,.inr ⟨r,h2⟩⟩
theorem ZU.over {f:Nat->Int}{p q:Nat} (h:ZU f p q):Over f q p:=.inl ⟨h.1,λr r1 r2=>by
 by_cases z:r=p
 ·rw[z];exact h.2.1
 ·have:=h.2.2 r r1 (by omega);have:=h.2.1;omega⟩
theorem ZO.over {f:Nat->Int}{n p q:Nat} (h:ZO f n p q):Over f q p:=.inr ⟨h.1,λr r1 r2=>by
 by_cases z:r=p
 ·rw[z];exact h.2.2.1
 ·have:=h.2.2.2 r (by omega) r2;have:=h.2.2.1;omega⟩
theorem Zov {ns T:List Int} (hT:Zi ns T) {p:Nat} (hp:p<ns.length):let L:=(wayI T p).filter λo=>decide (o<(p:Int))
  (L=[]->Zax (nth ns) p=-1)/\(L≠[]->∀m,m∈L->(∀a∈L,a<=m)->m=Zax (nth ns) p):=by
 intro L
 have hL:∀o:Nat,(o:Int)∈L↔o<p/\o<ns.length/\Over (nth ns) o p:=λo=>by
  rw[YV,Zmt hT hp,decide_eq_true_eq]
  exact⟨λh=>⟨by omega,h.1⟩,λh=>⟨h.2,by omega⟩⟩
 have hN:∀m∈L,∃o:Nat,m=o:=λm hm=>by
  have:=(YV.mp hm).1
  rw[Zfz]at this
  obtain⟨o,_,e⟩:=YG.mp this
  exact⟨o,e.symm⟩
 rcases(Z5 (hT.2 p hp)).1 with h|⟨q,h⟩
 ·refine⟨λ_=>Zaj h,λhne m hm _=>?_⟩
  obtain⟨o,rfl⟩:=hN m hm
  obtain⟨h1,_,h2⟩:=(hL o).mp hm
  have:=h o h1
  rcases h2 with⟨_,k⟩|⟨z,_⟩
  ·have:=k p h1 (Yd _);omega
  ·omega
 ·have hq:(q:Int)∈L:=(hL q).mpr ⟨h.1,by have:=h.1;omega,h.over⟩
  refine⟨λe=>by rw[e]at hq;simp at hq,λ_ m hm hmax=>?_⟩
  rw[ZG h]
  obtain⟨o,rfl⟩:=hN m hm
  obtain⟨h1,_,h2⟩:=(hL o).mp hm
  have hqo:=hmax _ hq
  by_cases z:o=q
  ·rw[z]
  ·have:=h.2.2 o (by omega) h1
   rcases h2 with⟨_,k⟩|⟨z,_⟩
   ·have:=k p h1 (Yd _);omega
   ·omega
theorem Zow {ns T:List Int} (hT:Zi ns T) {p:Nat} (hp:p<ns.length):let L:=(wayI T p).filter λo=>decide ((p:Int)<o)
  (L=[]->ZaB (nth ns) ns.length p=ns.length)/\(L≠[]->∀m,m∈L->(∀a∈L,m<=a)->m=ZaB (nth ns) ns.length p):=by
 intro L
 have hL:∀o:Nat,(o:Int)∈L↔p<o/\o<ns.length/\Over (nth ns) o p:=λo=>by
  rw[YV,Zmt hT hp,decide_eq_true_eq]
  exact⟨λh=>⟨by omega,h.1⟩,λh=>⟨h.2,by omega⟩⟩
 have hN:∀m∈L,∃o:Nat,m=o:=λm hm=>by
  have:=(YV.mp hm).1
  rw[Zfz]at this
  obtain⟨o,_,e⟩:=YG.mp this
  exact⟨o,e.symm⟩
 rcases(Z5 (hT.2 p hp)).2 with h|⟨q,h⟩
 ·refine⟨λ_=>Zac h,λhne m hm _=>?_⟩
  obtain⟨o,rfl⟩:=hN m hm
  obtain⟨h1,h3,h2⟩:=(hL o).mp hm
  have:=h o h1 h3
  rcases h2 with⟨z,_⟩|⟨_,k⟩
  ·omega
  ·have:=k p (Yd _) h1;omega
 ·have hq:(q:Int)∈L:=(hL q).mpr ⟨h.1,h.2.1,h.over⟩
  refine⟨λe=>by rw[e]at hq;simp at hq,λ_ m hm hmin=>?_⟩
  rw[ZH h]
  obtain⟨o,rfl⟩:=hN m hm
  obtain⟨h1,h3,h2⟩:=(hL o).mp hm
  have hqo:=hmin _ hq
  by_cases z:o=q
  ·rw[z]
  ·have:=h.2.2.2 o h1 (by omega)
   rcases h2 with⟨z,_⟩|⟨_,k⟩
   ·omega
   ·have:=k p (Yd _) h1;omega
noncomputable def ZaV (H:Hp) (l:Addr) (n:Nat) (ps:Nat->Int×Int):Prop:=∃qs:List Addr,H l=some (.lst (qs.map V.ref))/\qs.length=n/\∀(j:Nat) (q:Addr),qs[j]?=some q->H q=some (.tup [.int (ps j).1,.int (ps j).2])
theorem ZaV.same {H H':Hp}{l:Addr}{n:Nat}{ps:Nat->Int×Int} (h:ZaV H l n ps) (s:Zf H H'):ZaV H' l n ps:=by
 obtain⟨qs,h1,h2,h3⟩:=h
 exact⟨qs,s _ _ h1,h2,λj q hq=>s _ _ (h3 j q hq)⟩
theorem ZaV.push {H:Hp}{l q:Addr}{n:Nat}{ps:Nat->Int×Int} (h:ZaV H l n ps) (hq:H q=some (.tup [.int (ps n).1,.int (ps n).2])):∃xs:List V,H l=some (.lst xs)/\xs.length=n/\ZaV (upd H l (.lst (xs++[.ref q]))) l (n+1) ps:=by
 obtain⟨qs,h1,h2,h3⟩:=h
 have hne:∀a o,H a=some (.tup o)->a≠l:=λa o ha z=>by rw[z,h1]at ha;cases ha
 refine⟨_,h1,by simp[h2],qs++[q],by rw[Zb];simp,by simp[h2],λj a ha=>?_⟩
 by_cases z:j<qs.length
 ·rw[YS z]at ha
  have:=h3 j a ha
  rw[Zh (hne _ _ this)];exact this
 ·have hj:=(Yr.mp ha).1
  rw[YD]at hj
  have:j=n:=by simp at hj;omega
  subst this
  rw[YY (by omega),h2]at ha
  simp at ha
  rw[<-ha,Zh (hne _ _ hq)];exact hq
theorem ZcR {J:It}{n:Nat}{g:TG}{tb:TS}{D:Ends}{σ:St}{H:Hp} (Pv:Nat->St->Hp->Prop) (h0:Pv 0 σ H) (hgo:∀i σ H,i<n->Pv i σ H->J.go i H) (hstop:∀σ H,Pv n σ H->J.stop n H)
  (hs:∀i x σ H H',i<n->Pv i σ H->J.yld i H x H'->g x σ H' fun σ2 H2=>tb {D with nx:=Pv (i+1),ct:=Pv (i+1),bk:=D.nx} σ2 H2) (hd:∀σ H,Pv n σ H->D.nx σ H):ZiK J g tb D σ H:=by
 refine⟨λi m σ H=>m=n-i/\i<=n/\Pv i σ H,⟨n,by simp,Ym _,h0⟩,?_⟩
 rintro i m σ H ⟨rfl,hi,p⟩
 by_cases hlt:i<n
 ·exact .inr ⟨hgo i σ H hlt p,Pv (i+1),fun σ' H' p'=>⟨n-(i+1),by omega,rfl,hlt,p'⟩,λx H' y=>hs i x σ H H' hlt p y⟩
 ·have:i=n:=by omega
  subst this
  exact .inl ⟨hstop σ H p,hd σ H p⟩
theorem Zox (L:List Int):L=(List.range L.length).map λi=>L.getD i 0:=by
 refine List.ext_getElem (by simp) λj h1 h2=>?_
 simp[Yg,h1]
theorem ZiX {K:Frag}{a:Addr}{L:List Int}{H1:Hp}{Q:VK}{tt:TT}{σr:St} (P:Int->Bool) (ha:H1 a=some (.lst (L.map V.int))) (hn:L.length<=1000)
  (ht:∀(x:Int) (H:Hp) (R:Bool->Hp->Prop),R (P x) H->tt (some (V.int x)::σr) H R)
  (hk:∀l H',Zf H1 H'->H' l=none->Q (.ref l) (upd H' l (.lst ((L.filter P).map V.int)))) :
  ZeI (Itl K a) (gName 0) tt (tVar 0) (none::σr) Q H1:=by
 refine ZiT (n:=L.length) (λi=>P (L.getD i 0)) (λi=>V.int (L.getD i 0)) (Ys hn (by decide)) (λi Hx s hi=>⟨_,_,SqL.of (s _ _ ha),Yh (by simpa using hi)⟩) (λHx s=>⟨_,SqL.of (s _ _ ha),by simp⟩) ?_ ?_
 ·rintro i x Hx Hy hi s ⟨rfl,hx⟩
  have ex:=hx _ (SqL.of (s _ _ ha))
  rw[YE,Yh hi]at ex
  cases ex
  have eg:L.getD i 0=L[i]:=by simp[Yg,hi]
  refine ht _ _ _ ?_
  cases hP:P L[i]with
  |true =>
   rw[Yc rfl]
   exact⟨_,rfl,CF.take hi (by rw[eg];exact hP) (by rw[eg]) s⟩
  |false =>
   rw[Yb (by simp)]
   exact CF.skip hi (by rw[eg];exact hP) s
 ·intro l H' s hl
  have:=hk l H' s hl
  have e:((List.range L.length).filter λi=>P (L.getD i 0)).map (λi=>V.int (L.getD i 0))=(L.filter P).map V.int:=by
   conv=>rhs;rw[Zox L,List.filter_map,YU]
   rfl
  rw[e];exact this
theorem Zlv {prog:Program}{w:World}{A:Around}{E Q:Value->Shared->Prop}{s:Shared}{l:Addr}{xs:Array (Int×Tok)}{d:Value} (hA:A.handled=none) (hl:s.heap.IsTuple l (intItems xs))
  (q0:xs.size=0->∀h' tk,(∀b o,s.heap.get? b=some o->h'.get? b=some o)->Q d {s with heap:=h',toks:=tk})
  (q1:0<xs.size->∀v h' tk,(intItems xs)[argBest (λi j=>decide (numAt xs i>numAt xs j)) (xs.size-1)]?=some v->(∀b o,s.heap.get? b=some o->h'.get? b=some o)->Q v {s with heap:=h',toks:=tk}) :
  wpAny (model prog w) A (call (.builtin "max") [.ref l] [("default",d)]) Q E s:=by
 refine wpAny_call (codeAny_call_builtin_code rfl ?_)
 have hck:checkBuiltinCall "max" {pos:=[.ref l],kw:=[("default",d)]}=pure ():=by
  unfold checkBuiltinCall
  rw[F.kind_max]
  exact ZiW (.ref l) d
 rw[hck]
 refine Ye (codeAny_builtin F.entry_max ?_)
 show wpAny _ _ (_ >>= _) _ _ _
 have hbp:Builtin.Builtins.bindParams "max" ["key","default"] 0 {kw:=[("default",d)]}=pure [none,some d]:=by
  first|rfl|with_unfolding_all rfl|(simp[Builtin.Builtins.bindParams];done)
 refine Ya (wpAny_of_eq hbp (Ya (Ye (Ya (wpAny_pyIter_tuple hl ?_)))))
 refine Ya (wpAny_newObj_type ?_)
 refine Ye ⟨rfl,?_⟩
 have hlt:l<s.heap.objs.size:=by obtain⟨o,e,_⟩:=hl;exact Yj e
 have n1:l≠s.heap.objs.size:=Yl hlt
 have esz:(s.heap.push {cls:=.type "tuple_iterator",data:=.fields #[.ref l,.int 0 0]}).objs.size=s.heap.objs.size+1:=Heap.size_push _ _
 have old:∀b o,s.heap.get? b=some o->((s.heap.push {cls:=.type "tuple_iterator",data:=.fields #[.ref l,.int 0 0]}).push {cls:=.type "list",data:=.seq #[]}).get? b=some o:=λb o e=>Yk _ (Yk _ e)
 have ne:∀b o,s.heap.get? b=some o->b∉[s.heap.objs.size]/\b≠(s.heap.push {cls:=.type "tuple_iterator",data:=.fields #[.ref l,.int 0 0]}).objs.size:=λb o e=>by
  have:=Yj e
  refine⟨λz=>?_,λz=>?_⟩
  ·have:b=s.heap.objs.size:=by simpa using z
   exact absurd (Yj e) (by rw[this];exact YB _)
  ·rw[z,esz]at this
   exact absurd this (Nat.not_lt_of_le (YW _))
 have W:=Walks.tuple (prog:=prog) (w:=w) (A:=A.in1) hA s.heap.objs.size l n1 (intItems xs)
 have hitm:(intItems xs).size=xs.size:=by simp[intItems]
 refine ZiV W (λi j=>decide (numAt xs i>numAt xs j)) (CmpOf.ints_gt (numAt xs) λi v h=>intItems_at h) _ ?_ "default" d _ s (λz h' tk kp=>?_) (λz v h' tk hv kp=>?_) (intItems xs).size 0 _ _ rfl (Ym _) ⟨?_,?_⟩ (λb o _ _ e=>e) (.inl ⟨rfl,_,Yp _ rfl⟩)
 ·rw[esz]
  simp only[Yo,List.not_mem_nil,or_false,not_or]
  exact⟨Nat.ne_of_gt (Nat.lt_succ_self _),Nat.ne_of_gt (YL hlt)⟩
 ·exact q0 (by omega) h' tk λb o e=>kp b o (ne b o e).1 (ne b o e).2 (old b o e)
 ·exact q1 (by omega) v h' tk (by rw[<-hitm];exact hv) λb o e=>kp b o (ne b o e).1 (ne b o e).2 (old b o e)
 ·exact⟨_,Yk _ (Yp _ rfl),rfl,rfl⟩
 ·obtain⟨o,e,r⟩:=hl
  exact⟨o,old _ _ e,r⟩
section
variable {X:Cx}
noncomputable def tMaxDT (K:Frag) (ta td:TA):TE:=fun σ H Q=>ta σ H λvs H1=>td σ H1 λzs H2=>∃(p:Addr) (ns:List Int) (d:Int),vs=[.ref p]/\zs=[.int d]/\SqT K H2 p (ns.map V.int)/\(ns=[]->Q (.int d) H2)/\(ns≠[]->∀m,m∈ns->(∀a∈ns,a<=m)->Q (.int m) H2)
theorem Zoy {K:Frag}{e:Expr}{kws:List Keyword}{ta td:TA}{p pos:Pos} (hK:X.K=K) (hc:X.calm=true) (hg:Gl X "max") (hm:X.mg "max"=none) (ha:PA X [e] ta) (hd:PK X kws td)
  (he:starEach [e] X.env=(false,eval e X.env)::starEach [] X.env:=by rfl) (hpl:(backTo pos (starEach [e] X.env)).any (·.1)=false:=by rfl) (hall:(backToKw pos (keywordEach kws X.env)).all (·.1.isSome)=true:=by rfl)
  (hnn:(backToKw pos (keywordEach kws X.env)).any (·.1.isNone)=false:=by rfl) (hks:(backToKw pos (keywordEach kws X.env)).filterMap (·.1)=[(("default":String):Str)]:=by rfl) (hb:backTo pos (starEach [e] X.env)=(false,eval e X.env)::backTo pos (starEach [] X.env):=by rfl) :
  PE X (.Call (.Name "max" p) [e] kws pos) (tMaxDT K ta td):=by
 subst hK
 intro pins s σ H Q I h
 refine wpAny_Call_Name_kw (Zbc I hg hm Zht ?_)
 refine PyProof.Rows.callWith_kw (thn (ha pos pins s σ H _ I h) λus s1 ⟨vs,H1,I1,r1,q1⟩=>?_) hb hpl hall hnn
 refine thn (hd pos pins s1 σ H1 _ I1 q1) λws s2 ⟨zs,H2,I2,r2,pp,ns,d,e1,e2,hp,q0,qm⟩=>?_
 subst e1 e2
 obtain⟨u,rfl,ru⟩:=r1.one
 obtain⟨v,rfl,rv⟩:=r2.one
 cases(show u=Value.ref pp from ru)
 rw[hks]
 obtain⟨its,rr,pl,hz⟩:=I2.tuple hp
 obtain⟨ys,e1,e2⟩:=Zfp rr
 have hsz:ys.size=ns.length:=by
  have:=congrArg List.length e2
  rw[Yi,YO]at this
  exact this
 refine Zlv (xs:=ys) (I2.ok.hd hc) (e1▸pl) (λz h' tk k=>?_) (λz v' h' tk hv k=>?_)
 ·exact⟨.int d,H2,I2.kept k,rv,q0 (List.length_eq_zero_iff.mp (by omega))⟩
 ·obtain⟨t,rfl⟩:=intItems_at hv
  obtain⟨h1,h2⟩:=argBest_gt (numAt ys) (ys.size-1)
  refine⟨.int _,H2,I2.kept k,⟨t,rfl⟩,qm (λy=>by have h3:ys.size=0:=(by rw[hsz,y];rfl);omega) _ ?_ λa ha=>?_⟩
  ·rw[numAt_eq,e2];exact getD_mem (by omega)
  ·obtain⟨j,hj,rfl⟩:=mem_getD ha
   rw[<-e2,<-numAt_eq];exact h2 j (by omega)
end
end L2
namespace PySem
open Sem (wp)
end PySem
namespace L2
open PySem PySem.Spec PyProof.Rows PySem.W
theorem ZfB {f:Nat->Int}{n p:Nat} (hp:p<n):-1<=Zax f p/\Zax f p<p/\(p:Int)<ZaB f n p/\ZaB f n p<=n:=by
 obtain⟨hA,hB⟩:=Z5 (ZgA (f:=f) hp)
 have a1:-1<=Zax f p/\Zax f p<p:=by
  rcases hA with hA|⟨q,hA⟩
  ·rw[Zaj hA];omega
  ·rw[ZG hA];have:=hA.1;omega
 have a2:(p:Int)<ZaB f n p/\ZaB f n p<=n:=by
  rcases hB with hB|⟨q,hB⟩
  ·rw[Zac hB];omega
  ·rw[ZH hB];have:=hB.1;have:=hB.2.1;omega
 exact⟨a1.1,a1.2,a2.1,a2.2⟩
theorem ZeK {F:Nat->Int}{n k:Nat} (h:k<n):nth ((List.range n).map F) k=F k:=by simp[nth,Yg,h]
theorem Zqy {K:Frag}{Hx:Hp}{l q:Addr}{L:List Nat} (h1:Hx l=some (.lst (Zr L))) (h2:Hx q=some (.lst [])):EqD K Hx 3 (V.ref l) (V.ref q) (decide (L=[])):=by
 have hh:=Zqr (n:=2) (K:=K) (H:=Hx) Zhc (V.ref l) (V.ref q) (L.map λ(q:Nat)=>(q:Int)) [] (Zko (SqL.of (by rw[h1];simp[Zr,Function.comp_def]))) (Zko (ns:=[]) (SqL.of h2))
 have e:decide (L.map (λ(q:Nat)=>(q:Int))=[])=decide (L=[]):=by cases L<;>simp
 rw[e]at hh;exact hh
end L2
namespace L2
theorem snoc_cases {α:Type} (xs:List α):xs=[]\/∃ys y,xs=ys++[y]:=by
 rcases List.eq_nil_or_concat xs with h|⟨ys,y,h⟩
 ·exact .inl h
 ·exact .inr ⟨ys,y,by rw[h,List.concat_eq_append]⟩
end L2
namespace L2
open PySem PySem.Spec PyProof.Rows PySem.W
theorem Zoz (xs:List V) {a c:Nat} (h1:a<=c) (h2:c<=xs.length):ZbW xs (some (a:Int)) (some (c:Int))=(xs.drop a).take (c-a):=by
 unfold ZbW
 rw[HT.Zmc,HT.Zmc,Nat.min_eq_left h2,Nat.min_eq_left (Yf h1 h2)]
theorem ZoA (ns:List Int) {a c:Nat} (h1:a<=c) (h2:c<=ns.length):ZbW (ns.map V.int) (some (a:Int)) (some (c:Int))=(Zg4 ns a (c-a)).map V.int:=by
 rw[Zoz _ h1 (by simpa using h2)]
 unfold Zg4
 rw[List.map_take,List.map_drop]
theorem Zlw {bs:List Nat}{i:Nat} (h:bs.length=i+1):atI (Zr bs) (-1)=some (V.int ((bs.getD i 0:Nat):Int)):=by
 refine Zos (by rw[ZV];omega) ?_
 rw[ZV,h,Nat.add_sub_cancel]
 simp[Zr,Yg,h]
end L2
namespace L2
open PySem PySem.Spec PyProof.Rows PySem.W
theorem ZF.updN {H:Hp}{p q:Addr}{o:HO} (P:ZF H p) (h:q≠p):ZF (L2.upd H q o) p:=by
 obtain⟨x,y,e,z⟩:=P
 exact⟨x,y,by rw[Zh (λw=>h w.symm)];exact e,z⟩
noncomputable def ZhF (H:Hp) (l:Addr) (rs:List (List Int)):Prop:=∃as:List Addr,H l=some (.lst (as.map V.ref))/\as.length=rs.length/\∀i (h1:i<as.length) (h2:i<rs.length),H as[i]=some (.tup (rs[i].map V.int))
noncomputable def Once (k:Nat) (ss ls:List Int):Prop:=ss=((List.range k).map λ(j:Nat)=>(j:Int)).filter (λj=>decide (j∉ls))/\ls=((List.range k).map λ(j:Nat)=>(j:Int)).filter (λj=>decide (j∈ls))
noncomputable instance (k:Nat) (ss ls:List Int):Decidable (Once k ss ls):=inferInstanceAs (Decidable (_/\_))
theorem ZhF.walk {K:Frag}{H1:Hp}{d:Addr}{rs:List (List Int)} (R:ZhF H1 d rs):(∀i H,Zf H1 H->i<rs.length->(Itl K d).go i H)/\(∀H,Zf H1 H->(Itl K d).stop rs.length H) /\
  ∀i x H H' (h:i<rs.length),Zf H1 H->(Itl K d).yld i H x H'->H'=H/\∃a,x=.ref a/\H a=some (.tup (rs[i].map V.int)):=by
 obtain⟨as,e,hl,hh⟩:=R
 refine⟨λi H s hi=>⟨_,V.ref (as[i]'(by omega)),SqL.of (s _ _ e),by simp[show i<as.length by omega]⟩,λH s=>⟨_,SqL.of (s _ _ e),by simp[hl]⟩,λi x H H' hi s y=>?_⟩
 obtain⟨e1,y⟩:=y
 have h1:=y _ (SqL.of (s _ _ e))
 rw[YE,Yh (show i<as.length by omega)]at h1
 cases h1
 exact⟨e1,_,rfl,s _ _ (hh i (by omega) hi)⟩
theorem ZhF.sq {K:Frag}{H:Hp}{l:Addr}{rs:List (List Int)} (R:ZhF H l rs):∃xs,SqL K H l xs:=by
 obtain⟨as,e,_⟩:=R
 exact⟨_,SqL.of e⟩
section
variable {N:Nat}{k:Nat->Int}{cmp:Nat->Nat->(Bool->Shared->Prop)->Shared->Prop}{s:Shared}{p:Array Nat}
noncomputable def kk (k:Nat->Int) (p:Array Nat) (i:Nat):Int:=k (p.getD i 0)
end
theorem Zdy {f g:Nat->Int}{i:Nat}{S:List Nat} (h:∀q,q<i->f q=g q) (hs:Zgz f i S):Zgz g i S:=by
 refine⟨hs.1,λq=>(hs.2 q).trans ⟨λ⟨h1,h2⟩=>⟨h1,λr r1 r2=>by rw[<-h q h1,<-h r r2];exact h2 r r1 r2⟩,λ⟨h1,h2⟩=>⟨h1,λr r1 r2=>by rw[h q h1,h r r2];exact h2 r r1 r2⟩⟩⟩
theorem Zdz {f g:Nat->Int}{i p:Nat}{e:Int} (h:∀q,q<i->f q=g q) (hp:p<i) (he:Zy f i p e):Zy g i p e:=by
 have c1:ZaP f p->ZaP g p:=λz q hq=>by rw[<-h p hp,<-h q (by omega)];exact z q hq
 have c2:Zaw f i p->Zaw g i p:=λz r r1 r2=>by rw[<-h p hp,<-h r r2];exact z r r1 r2
 have c3:∀q,ZU f p q->ZU g p q:=λq ⟨z1,z2,z3⟩=>⟨z1,by rw[<-h p hp,<-h q (by omega)];exact z2,λr r1 r2=>by rw[<-h p hp,<-h r (by omega)];exact z3 r r1 r2⟩
 have c4:∀r,ZO f i p r->ZO g i p r:=λr ⟨z1,z2,z3,z4⟩=>⟨z1,z2,by rw[<-h p hp,<-h r z2];exact z3,λs s1 s2=>by rw[<-h p hp,<-h s (by omega)];exact z4 s s1 s2⟩
 rcases he with⟨a,b,c⟩|⟨q,a,b,c⟩|⟨r,a,b,c⟩|⟨q,r,a,b,c⟩
 ·exact .inl ⟨c1 a,c2 b,c⟩
 ·exact .inr (.inl ⟨q,c3 q a,c2 b,c⟩)
 ·exact .inr (.inr (.inl ⟨r,c1 a,c4 r b,c⟩))
 ·exact .inr (.inr (.inr ⟨q,r,c3 q a,c4 r b,by rw[<-h q (Nat.lt_trans a.1 hp),<-h r b.2.1];exact c⟩))
noncomputable def ZhG (n i:Nat) (S:List Nat) (es:List Int):Prop:=∃f:Nat->Int,Zgz f i S/\S.Pairwise (λq r=>f q+2 ^ (n-i)<=f r)/\∀p,p<i->Zy f i p (es.getD p 0)
theorem Znc (n:Nat) (es:List Int):ZhG n 0 [] es:=⟨λ_=>0,⟨List.Pairwise.nil,λq=>by simp⟩,List.Pairwise.nil,λp hp=>by omega⟩
theorem ZhG.lt {n i:Nat}{S:List Nat}{es:List Int} (h:ZhG n i S es):∀q∈S,q<i:=by
 obtain⟨f,hS,_⟩:=h
 exact λq hq=>((hS.2 q).mp hq).1
theorem ZhG.len {n i:Nat}{S:List Nat}{es:List Int} (h:ZhG n i S es):S.length<=i:=by
 have hl:=h.lt
 obtain⟨f,hS,_⟩:=h
 rcases Zls S i 0 hS.1 (λq hq=>⟨Ym _,hl q hq⟩)with z|z
 ·omega
 ·rw[z];simp
theorem ZhG.step {n i:Nat}{A B:List Nat}{es:List Int} (h:ZhG n i (A++B) es) (hi:i<n) (hl:es.length=n) (he:es.getD i 0=-1):ZhG n (i+1) (A++[i]) (Zbq es A B i):=by
 have hlt:=h.lt
 obtain⟨f,hS,hg,hE⟩:=h
 have eD:(2:Int) ^ (n-i)=2*2 ^ (n-(i+1)):=by
  rw[show n-i=n-(i+1)+1 by omega,Int.pow_succ,Int.mul_comm]
 have pD:(0:Int)<2 ^ (n-(i+1)):=Int.pow_pos (by decide)
 rw[eD]at hg
 generalize hDD:(2:Int) ^ (n-(i+1))=D at hg pD
 have hgA:=(List.pairwise_append.mp hg).1
 have hgB:=(List.pairwise_append.mp hg).2.1
 have hgX:=(List.pairwise_append.mp hg).2.2
 obtain⟨v,vA,vB⟩:∃v:Int,(∀q∈A,f q+D<=v)/\∀q∈B,v<f q:=by
  cases B with
  |cons b Br =>
   refine⟨f b-D,λq hq=>?_,λq hq=>?_⟩
   ·have:=hgX q hq b (by simp);omega
   ·rcases Yo.mp hq with rfl|hq
    ·omega
    ·have:=(Y7.mp hgB).1 q hq;omega
  |nil =>
   rcases snoc_cases A with rfl|⟨A',a,rfl⟩
   ·exact⟨0,(λq hq=>by cases hq),λq hq=>by cases hq⟩
   ·refine⟨f a+D,λq hq=>?_,λq hq=>by cases hq⟩
    rcases Yz.mp hq with hq|hq
    ·have:=(List.pairwise_append.mp hgA).2.2 q hq a (by simp);omega
    ·rw[Y3.mp hq];omega
 have hag:∀q,q<i->f q=(if q=i then v else f q):=λq hq=>by rw[Yb (by omega)]
 have gi:(λq=>if q=i then v else f q) i=v:=Yc rfl
 have gq:∀q,q<i->(λq=>if q=i then v else f q) q=f q:=λq hq=>Yb (by omega)
 generalize (λq=>if q=i then v else f q)=g at gi gq
 have hag:∀q,q<i->f q=g q:=λq hq=>(gq q hq).symm
 have lA:∀q∈A,q<i:=λq hq=>hlt q (YN _ hq)
 have lB:∀q∈B,q<i:=λq hq=>hlt q (Yq _ hq)
 have SS:=ZeT (f:=g) (i:=i) (A:=A) (B:=B) (Zdy hag hS) (λq hq=>by rw[gi,gq q (lA q hq)];have:=vA q hq;omega) (λq hq=>by rw[gi,gq q (lB q hq)];exact vB q hq)
 refine⟨g,SS.1,?_,λp hp=>?_⟩
 ·rw[hDD]
  refine List.pairwise_append.mpr ⟨?_,List.pairwise_singleton _ _,λq hq r hr=>?_⟩
  ·refine hgA.imp_of_mem λ{q r} hq hr z=>?_
   rw[gq q (lA q hq),gq r (lA r hr)];omega
  ·rw[Y3.mp hr,gi,gq q (lA q hq)];exact vA q hq
 ·have hbi:∀b,B.head?=some b->b≠i:=λb hb=>by
   have:=lB b (List.mem_of_head? hb);omega
  rw[Zex _ _ _ _ _ (by omega) hbi]
  by_cases z:p=i
  ·subst z
   rw[Yc rfl,he];exact SS.2.1
  ·rw[Yb z]
   exact SS.2.2 p _ (by omega) (Zdz hag (by omega) (hE p (by omega)))
theorem ZhG.tree {n:Nat}{S:List Nat}{es:List Int} (h:ZhG n n S es) (hl:es.length=n):∃ns,Zi ns es:=by
 obtain⟨f,_,_,hE⟩:=h
 refine⟨(List.range n).map f,by simp[hl],λp hp=>?_⟩
 have hp:p<n:=by simpa using hp
 have:=hE p hp
 rw[show((List.range n).map f).length=n by simp]
 exact Zdz (f:=f) (λq hq=>(ZeK hq).symm) hp this
noncomputable def ZD (ds:List Nat):Nat->Nat
 |0=>0
 |k+1=>ZD ds k-ds.getD k 0+1
noncomputable def Zbz (ds:List Nat):Prop:=∀k,k<ds.length->ds.getD k 0<=ZD ds k
theorem ZhH (ds:List Nat) (k:Nat):ZD ds k<=k:=by
 induction k with
 |zero=>exact Yd _
 |succ k ih=>unfold ZD;omega
theorem ZbN (ds:List Nat) (d:Nat):∀k,k<=ds.length->ZD (ds++[d]) k=ZD ds k
 |0,_=>rfl
 |k+1,h=>by
  unfold ZD
  rw[ZbN ds d k (by omega)]
  congr 2
  simp[Yg,YS (show k<ds.length by omega)]
theorem Zbz.snoc {ds:List Nat}{d:Nat} (h:Zbz ds) (hd:d<=ZD ds ds.length):Zbz (ds++[d]):=by
 intro k hk
 rw[ZbN ds d k (by simp at hk;omega)]
 by_cases e:k=ds.length
 ·subst e
  simpa[Yg]using hd
 ·have hk2:k<ds.length:=by simp at hk;omega
  have:=h k hk2
  simpa[Yg,YS hk2]using this
theorem ZhI (l:List Nat) (y:Nat):atI (Zr (l++[y])) (-1)=some (V.int (y:Nat)):=by
 have:=Zlw (bs:=l++[y]) (i:=l.length) (by simp)
 rw[this];simp[Yg]
theorem Zjy (es:List Int) (y:Nat):es.set y (nth es y)=es:=by
 by_cases h:y<es.length
 ·refine List.ext_getElem (by simp) λj j1 j2=>?_
  rw[List.getElem_set]
  split
  ·rename_i e
   subst e
   simp[nth,Yg,h]
  ·rfl
 ·exact List.set_eq_of_length_le (by omega)
theorem ZeX {α:Type} (S:List α) {d:Nat} (h:d<=S.length):∃A B,S=A++B/\B.length=d:=⟨S.take (S.length-d),S.drop (S.length-d),(Jc _ _).symm,by simp;omega⟩
section
variable {X:Cx}
theorem vals3 {x y z:V}{us:List Value} (r:Vals [x,y,z] us):∃u w' v',us=[u,w',v']/\RelV x u/\RelV y w'/\RelV z v':=by
 cases r with
 |cons r1 r2 =>
  obtain⟨u,w',rfl,a,b⟩:=vals2 r2
  exact⟨_,_,_,rfl,r1,a,b⟩
theorem Znd (hc:X.calm=true):Zbl X (.builtin "min") (λxs H Q=>∃i j k,xs=[.int i,.int j,.int k]/\Q (.int (min (min i j) k)) H):=by
 intro pins s σ H xs us Q I r h
 obtain⟨i,j,k,rfl,q⟩:=h
 obtain⟨u,w',v',rfl,⟨t,rfl⟩,⟨t',rfl⟩,⟨t'',rfl⟩⟩:=vals3 r
 refine min_three_ints (I.ok.hd hc) λh' tk kp=>⟨_,H,I.kept kp,?_,q⟩
 repeat' split
 all_goals exact⟨_,by congr 1;omega⟩
end
noncomputable def ZoB (f:Nat->Int) (p k:Nat):Prop:=p<k/\f k<f p/\∀s,p<s->s<k->f p<=f s
open Classical in
noncomputable def Zf8 (f:Nat->Int) (k:Nat):Nat:=(List.range k).countP λp=>decide (ZoB f p k)
theorem Zne {B:List Nat}{n:Nat} (hB:B.Nodup) (hlt:∀q∈B,q<n):(List.range n).countP (λp=>decide (p∈B))=B.length:=by
 rw[List.countP_eq_length_filter]
 refine List.Perm.length_eq ((List.perm_ext_iff_of_nodup (List.nodup_range.filter _) hB).mpr λa=>?_)
 rw[YV,YC,decide_eq_true_iff]
 exact⟨λh=>h.2,λh=>⟨hlt a h,h⟩⟩
theorem Zlx {f:Nat->Int}{i:Nat}{A B:List Nat} (hs:Zgz f i (A++B)) (hA:∀q∈A,f q<=f i) (hB:∀q∈B,f i<f q):Zf8 f i=B.length:=by
 have hm:∀p,ZoB f p i↔p∈B:=λp=>by
  constructor
  ·rintro⟨h1,h2,h3⟩
   rcases Yz.mp ((hs.2 p).mpr ⟨h1,h3⟩)with z|z
   ·have:=hA p z;omega
   ·exact z
  ·intro z
   obtain⟨h1,h2⟩:=(hs.2 p).mp (Yq _ z)
   exact⟨h1,hB p z,h2⟩
 have nd:B.Nodup:=(List.pairwise_append.mp hs.1).2.1.imp λh=>Yl h
 have hlt:∀q∈B,q<i:=λq hq=>((hs.2 q).mp (Yq _ hq)).1
 unfold Zf8
 rw[<-Zne nd hlt]
 refine List.countP_congr λp _=>?_
 simp[hm p]
theorem Zjz {f g:Nat->Int}{k:Nat} (h:∀q,q<=k->f q=g q):Zf8 f k=Zf8 g k:=by
 unfold Zf8
 refine List.countP_congr λp hp=>?_
 have hp:=YC.mp hp
 simp only[decide_eq_true_eq]
 constructor
 ·rintro⟨a,b,c⟩
  exact⟨a,by rw[<-h k (Yd _),<-h p (by omega)];exact b,λs s1 s2=>by rw[<-h p (by omega),<-h s (by omega)];exact c s s1 s2⟩
 ·rintro⟨a,b,c⟩
  exact⟨a,by rw[h k (Yd _),h p (by omega)];exact b,λs s1 s2=>by rw[h p (by omega),h s (by omega)];exact c s s1 s2⟩
noncomputable def ZhJ (n i:Nat) (S:List Nat) (es:List Int) (ds:List Nat):Prop:=∃f:Nat->Int,Zgz f i S/\S.Pairwise (λq r=>f q+2 ^ (n-i)<=f r)/\(∀p,p<i->Zy f i p (es.getD p 0))/\∀k,k<i->Zf8 f k=ds.getD k 0
theorem Zly (n:Nat) (es:List Int) (ds:List Nat):ZhJ n 0 [] es ds:=⟨λ_=>0,⟨List.Pairwise.nil,λq=>by simp⟩,List.Pairwise.nil,(λp hp=>by omega),λk hk=>by omega⟩
theorem ZhJ.lt {n i:Nat}{S ds:List Nat}{es:List Int} (h:ZhJ n i S es ds):∀q∈S,q<i:=by
 obtain⟨f,hS,_⟩:=h
 exact λq hq=>((hS.2 q).mp hq).1
theorem ZhJ.step {n i:Nat}{A B ds:List Nat}{es:List Int} (h:ZhJ n i (A++B) es ds) (hi:i<n) (hl:es.length=n) (he:es.getD i 0=-1) (hd:ds.getD i 0=B.length):ZhJ n (i+1) (A++[i]) (Zbq es A B i) ds:=by
 have hlt:=h.lt
 obtain⟨f,hS,hg,hE,hD⟩:=h
 have eD:(2:Int) ^ (n-i)=2*2 ^ (n-(i+1)):=by
  rw[show n-i=n-(i+1)+1 by omega,Int.pow_succ,Int.mul_comm]
 have pD:(0:Int)<2 ^ (n-(i+1)):=Int.pow_pos (by decide)
 rw[eD]at hg
 generalize hDD:(2:Int) ^ (n-(i+1))=D at hg pD
 have hgA:=(List.pairwise_append.mp hg).1
 have hgB:=(List.pairwise_append.mp hg).2.1
 have hgX:=(List.pairwise_append.mp hg).2.2
 obtain⟨v,vA,vB⟩:∃v:Int,(∀q∈A,f q+D<=v)/\∀q∈B,v<f q:=by
  cases B with
  |cons b Br =>
   refine⟨f b-D,λq hq=>?_,λq hq=>?_⟩
   ·have:=hgX q hq b (by simp);omega
   ·rcases Yo.mp hq with rfl|hq
    ·omega
    ·have:=(Y7.mp hgB).1 q hq;omega
  |nil =>
   rcases snoc_cases A with rfl|⟨A',a,rfl⟩
   ·exact⟨0,(λq hq=>by cases hq),λq hq=>by cases hq⟩
   ·refine⟨f a+D,λq hq=>?_,λq hq=>by cases hq⟩
    rcases Yz.mp hq with hq|hq
    ·have:=(List.pairwise_append.mp hgA).2.2 q hq a (by simp);omega
    ·rw[Y3.mp hq];omega
 have gi:(λq=>if q=i then v else f q) i=v:=Yc rfl
 have gq:∀q,q<i->(λq=>if q=i then v else f q) q=f q:=λq hq=>Yb (by omega)
 generalize (λq=>if q=i then v else f q)=g at gi gq
 have hag:∀q,q<i->f q=g q:=λq hq=>(gq q hq).symm
 have lA:∀q∈A,q<i:=λq hq=>hlt q (YN _ hq)
 have lB:∀q∈B,q<i:=λq hq=>hlt q (Yq _ hq)
 have sA:∀q∈A,g q<=g i:=λq hq=>by rw[gi,gq q (lA q hq)];have:=vA q hq;omega
 have sB:∀q∈B,g i<g q:=λq hq=>by rw[gi,gq q (lB q hq)];exact vB q hq
 have SS:=ZeT (f:=g) (i:=i) (A:=A) (B:=B) (Zdy hag hS) sA sB
 refine⟨g,SS.1,?_,λp hp=>?_,λk hk=>?_⟩
 ·rw[hDD]
  refine List.pairwise_append.mpr ⟨?_,List.pairwise_singleton _ _,λq hq r hr=>?_⟩
  ·refine hgA.imp_of_mem λ{q r} hq hr z=>?_
   rw[gq q (lA q hq),gq r (lA r hr)];omega
  ·rw[Y3.mp hr,gi,gq q (lA q hq)];exact vA q hq
 ·have hbi:∀b,B.head?=some b->b≠i:=λb hb=>by
   have:=lB b (List.mem_of_head? hb);omega
  rw[Zex _ _ _ _ _ (by omega) hbi]
  by_cases z:p=i
  ·subst z
   rw[Yc rfl,he];exact SS.2.1
  ·rw[Yb z]
   exact SS.2.2 p _ (by omega) (Zdz hag (by omega) (hE p (by omega)))
 ·by_cases z:k=i
  ·subst z
   rw[hd];exact Zlx (Zdy hag hS) sA sB
  ·rw[<-Zjz (f:=f) (g:=g) (k:=k) (λq hq=>hag q (by omega))]
   exact hD k (by omega)
noncomputable def ZP (ds:List Nat):Nat->List Nat×List Int
 |0=>([],List.replicate ds.length (-1))
 |i+1=>(((ZP ds i).1.take ((ZP ds i).1.length-ds.getD i 0))++[i],Zbq (ZP ds i).2 ((ZP ds i).1.take ((ZP ds i).1.length-ds.getD i 0)) ((ZP ds i).1.drop ((ZP ds i).1.length-ds.getD i 0)) i)
noncomputable def Zmu (ds:List Nat):List Int:=(ZP ds ds.length).2
theorem ZgC {ds:List Nat}{i:Nat}{A B:List Nat} (h:(ZP ds i).1=A++B) (hB:B.length=ds.getD i 0):ZP ds (i+1)=(A++[i],Zbq (ZP ds i).2 A B i):=by
 have e:(ZP ds i).1.length-ds.getD i 0=A.length:=by rw[h,YD];omega
 show(((ZP ds i).1.take ((ZP ds i).1.length-ds.getD i 0))++[i],Zbq (ZP ds i).2 ((ZP ds i).1.take ((ZP ds i).1.length-ds.getD i 0)) ((ZP ds i).1.drop ((ZP ds i).1.length-ds.getD i 0)) i)=_
 rw[e,h,List.take_left,List.drop_left]
theorem ZiY {ds:List Nat} (h:Zbz ds):∀i,i<=ds.length->ZhJ ds.length i (ZP ds i).1 (ZP ds i).2 ds/\(ZP ds i).1.length=ZD ds i/\(ZP ds i).2.length=ds.length/\∀p,i<=p->p<ds.length->(ZP ds i).2.getD p 0=-1
 |0,_=>⟨Zly _ _ _,rfl,by simp[ZP],λp _ hp=>by simp[ZP,Yg,hp]⟩
 |i+1,hi=>by
  obtain⟨h1,h2,h3,h4⟩:=ZiY h i (by omega)
  have hd:=h i (by omega)
  obtain⟨A,B,hAB,hBl⟩:=ZeX (ZP ds i).1 (d:=ds.getD i 0) (by omega)
  rw[ZgC hAB hBl]
  rw[hAB]at h1
  have hlt:=h1.lt
  have hbi:∀b,B.head?=some b->b≠i:=λb hb=>by
   have:=hlt b (Yq _ (List.mem_of_head? hb));omega
  refine⟨h1.step (by omega) h3 (h4 i (Yd _) (by omega)) hBl.symm,?_,by rw[Zfv];exact h3,λp p1 p2=>?_⟩
  ·have:=congrArg List.length hAB
   rw[YD]at this
   show(A++[i]).length=ZD ds i-ds.getD i 0+1
   rw[YD,List.length_singleton];omega
  ·show(Zbq (ZP ds i).2 A B i).getD p 0=-1
   rw[Zex _ _ _ _ _ (by omega) hbi,Yb (by omega),Yb (λz=>?_)]
   ·exact h4 p (by omega) p2
   ·have:=hlt p (Yq _ (List.mem_of_head? z));omega
noncomputable def goN:Nat->Nat->Int
 |0,_=>1
 |r+1,j=>((List.range (j+1)).map λi=>goN r (i+1)).sum
noncomputable def ZS (r m:Nat):List Int:=(List.range m).map (goN r)
theorem Zey (r m:Nat):(ZS r m).length=m:=by simp[ZS]
theorem ZiZ {r m j:Nat} (h:j<m):nth (ZS r m) j=goN r j:=ZeK h
theorem Zkx (r j:Nat):goN (r+1) (j+1)=goN (r+1) j+goN r (j+2):=by
 show((List.range (j+1+1)).map λi=>goN r (i+1)).sum=_
 rw[YJ,YM,List.sum_append]
 simp[goN]
theorem Znf (r:Nat):goN (r+1) 0=goN r 1:=by simp[goN]
theorem Zlz (r m:Nat):(ZS r (m+1)).drop 1=(List.range m).map λi=>goN r (i+1):=by
 unfold ZS
 rw[List.range_succ_eq_map]
 simp
theorem ZlA (r:Nat):∀m,Zv 0 ((ZS r (m+1)).drop 1)=ZS (r+1) m:=by
 intro m
 rw[Zlz]
 induction m with
 |zero=>rfl
 |succ m ih =>
  rw[YJ,YM,Zan,ih]
  unfold ZS
  rw[YJ,YM]
  congr 1
  show[0+((List.range m).map λi=>goN r (i+1)).sum+goN r (m+1)]=[goN (r+1) m]
  congr 1
  show _=((List.range (m+1)).map λi=>goN r (i+1)).sum
  rw[YJ,YM,List.sum_append]
  simp
noncomputable def goTab (w n:Nat):List (List Int):=(List.range (n+1)).map λr=>ZS r (w-r)
noncomputable def ZeL (r st d:Nat):Int:=((List.range d).map λf=>goN r (st+1-f)).sum
noncomputable def CDivM (i j:Int):Prop:=0<j/\j<1267650600228229401496703205376
theorem Zky {X:Cx}:OpR X (binaryOp .FloorDiv) (rI CDivM λi j=>.int (i / j)):=opI λi j _ _ _ _ _ hc q=>by
 have h1:(0:Int)<j:=hc.1
 have h2:j<1267650600228229401496703205376:=hc.2
 refine floordiv_int (by omega) (by rw[Int.fdiv_eq_ediv_of_nonneg i (by omega)];exact q) (.inl (PyProof.noPylong_of_log2 ?_))
 have h3:j.natAbs<2 ^ 100:=by omega
 have:j.natAbs.log2<100:=(Nat.log2_lt (by omega)).mpr h3
 omega
theorem Zg5:isSubtype (.type "range_iterator") (.type "reversed")=pure false:=by rw[isSubtype_type];kernel_rfl
section
variable {prog:Program}{w:World}{A:Around}{E:Value->Shared->Prop}{s:Shared}
noncomputable def ZhK (a n:Int):Obj:={cls:=.type "range_iterator",data:=.fields #[rawInt a,rawInt n,rawInt (-1)]}
noncomputable def ZcD (a b:Int):Prop:=(Builtin.Range.rangeFitsLong a&&Builtin.Range.rangeFitsLong b&&Builtin.Range.rangeFitsLong 1&&Builtin.Range.rangeFitsLong (-1)&&Builtin.Range.rangeFitsLong (a-1)&&Builtin.Range.rangeFitsLong (Builtin.Range.rangeSize a b 1))=true
theorem ZhL {r:Addr}{a b:Int}{t u v:Tok}{Q:Value->Shared->Prop} (hr:IsRange s.heap r a b 1 t u v) (hsm:ZcD a b)
  (h:Q (.ref s.heap.objs.size) {s with heap:=s.heap.push (ZhK (a+(Builtin.Range.rangeSize a b 1-1)*1) (Builtin.Range.rangeSize a b 1))}):wpAny (model prog w) A (call (.builtin "range.__reversed__") [.ref r]) Q E s:=by
 have hT:s.TypeIs (.ref r) "range":=⟨_,hr,rfl⟩
 have hr':s.heap.get? r=some {cls:=.type "range",dict:=none,data:=.fields #[.int a t,.int b u,.int 1 v],slots:=#[]}:=hr
 refine wpAny_call_entry F.slot_range_reversed hT F.entry_range_reversed ?_ (F.args_range_reversed_1 _)
 unfold Builtin.«range.__reversed__»
 refine Ya (wpAny_of_eq (a:=Value.ref r) rfl ?_)
 obtain⟨hp,g,d,tk,os⟩:=s
 have hl:=hr'
 unfold ZcD at hsm
 simp only[Builtin.Range.rangeFields]
 wp_walk
 refine⟨_,rfl,?_⟩
 unfold ZhK at h
 dsimp only at h⊢
 rw[Yc hsm]
 exact h
theorem ZfC {r:Addr}{a b:Int}{t u v:Tok}{Q₁:Value->Shared->Prop} (hr:IsRange s.heap r a b 1 t u v) (hsm:ZcD a b)
  (h:Q₁ (.ref s.heap.objs.size) {s with heap:=s.heap.push (ZhK (a+(Builtin.Range.rangeSize a b 1-1)*1) (Builtin.Range.rangeSize a b 1))}) :
  codeAny (model prog w) A (.call (.builtin "reversed.__new__") ⟨[.type "reversed",.ref r],[]⟩) (wants Q₁ E) s:=by
 have hT:s.TypeIs (.ref r) "range":=⟨_,hr,rfl⟩
 refine codeAny_of_tree ?_
 show wpAny _ A.in1 (do checkBuiltinCall "reversed.__new__" ⟨[.type "reversed",.ref r],[]⟩;again (.builtin "reversed.__new__" ⟨[.type "reversed",.ref r],[]⟩)) _ _ s
 refine Ya (wpAny_of_eq (F.newCall_reversed_1 _) (Ye ⟨plainId_quiet F.plain_reversed_new _,codeAny_builtin F.entry_reversed_new ?_⟩))
 rw[Around.under_plainId F.plain_reversed_new _]
 unfold Builtin.«reversed.__new__»
 refine Ya (wpAny_of_eq (newClass_reversed _) ?_)
 try dsimp only
 refine Ya (wpAny_of_eq (a:=()) (by first|rfl|kernel_rfl) ?_)
 refine Ya (wpAny_of_eq (a:=()) (by first|rfl|kernel_rfl) ?_)
 try dsimp only
 refine Ya (wpAny_specialOf hT F.slot_range_reversed.lookup ?_)
 try dsimp only
 refine Ya (wpAny_of_eq (F.slot_range_reversed.bind _) ?_)
 try dsimp only
 first
 |rw[Yb (show ¬ ((Value.builtin "range.__reversed__"==Value.none)=true)from Yw)]
 |(show wpAny _ _ (if (Value.builtin "range.__reversed__"==Value.none)=true then _ else _) _ _ _;rw[Yb (show ¬ ((Value.builtin "range.__reversed__"==Value.none)=true)from Yw)])
 refine Ya (wpAny_rule ?_)
 refine Ya (m:=runValue (.call (.builtin "range.__reversed__") ⟨[.ref r],[]⟩)) (show wpAny _ _ (call (.builtin "range.__reversed__") [.ref r]) _ _ _ from ZhL hr hsm ?_)
 first
 |exact Ye h
 |exact Ya (Ye (Ye h))
theorem ZfD {r:Addr}{a b:Int}{t u v:Tok}{Q:Value->Shared->Prop} (hr:IsRange s.heap r a b 1 t u v) (hsm:ZcD a b)
  (h:Q (.ref s.heap.objs.size) {s with heap:=s.heap.push (ZhK (a+(Builtin.Range.rangeSize a b 1-1)*1) (Builtin.Range.rangeSize a b 1))}):wpAny (model prog w) A (call (.type "reversed") [.ref r]) Q E s:=by
 refine callType_other (U:="range_iterator") (Q₁:=λobj s₁=>obj=.ref s.heap.objs.size/\s₁={s with heap:=s.heap.push (ZhK (a+(Builtin.Range.rangeSize a b 1-1)*1) (Builtin.Range.rangeSize a b 1))}) (by decide +kernel) F.create_reversed ⟨_,_,F.mro_reversed⟩ F.made_reversed Zg5 (F.typeCall_reversed_1 _) (ZfC hr hsm ⟨rfl,rfl⟩) ?_
 rintro obj s₁ ⟨rfl,rfl⟩
 exact⟨⟨_,Yp _ rfl,rfl⟩,h⟩
end
theorem Zng {a b:Int} (ha:-(2 ^ 62)<=a) (ha':a<2 ^ 62) (hb:-(2 ^ 62)<=b) (hb':b<2 ^ 62):ZcD a b:=by
 unfold ZcD
 rw[rangeSize_one]
 simp only[Builtin.Range.rangeFitsLong,Bool.and_eq_true,Bool.or_eq_true,decide_eq_true_eq,beq_iff_eq]
 split<;>omega
noncomputable def Itrv (lo:Int) (n:Nat):It:=⟨λi _=>i<n,λi H x H'=>H'=H/\x=.int (lo+n-1-i),λi _=>n<=i⟩
theorem Zkz {P:Program}{w:World}{K:PySem.W.Frag}{tg:Expr} (it:Addr) (lo:Int) (n:Nat):Turn P w K tg (Itrv lo n) [it] it (λi h=>IsRangeIter h it (lo+n-1+(i:Nat)*(-1)) ((n:Int)-(i:Nat)) (-1)) where
 mem:=by simp
 obj:=λi h st b hb=>by
  have e:b=it:=by simpa using hb
  subst e
  exact⟨_,st,λv z=>by
   have z':Data.fields _=Data.cell v:=z
   cases z'⟩
 keep:=λi h h' st k=>k it (by simp) _ st
 item:=by
  intro X hP hw hK hc i pins s σ H E I hf st hg
  subst hP hw hK
  obtain⟨f0,f1,f2,f3,f4,f5⟩:=hf it (by simp)
  have W:=Walks.range (prog:=X.prog) (w:=X.w) (I.ok.hd hc) it (lo+n-1) (-1) n
  refine W.item i s _ _ hg st λv h' tk hv st' kk=>?_
  obtain⟨t,rfl⟩:=hv
  have I1:Inv X pins σ H {s with heap:=h',toks:=tk}:=I.turned (λb o hb e=>kk b o (by simpa using hb) e) f0 f1 f3 f4 f5
  refine⟨_,rfl,Zl7 (s:={s with heap:=h',toks:=tk}) (n:="range_iterator") st' rfl rfl (by decide) ⟨.int (lo+n-1-i),H,I1,⟨t,?_⟩,⟨rfl,rfl⟩,st',λb hb=>(hf b hb).1⟩⟩
  congr 1;omega
 done:=by
  intro X hP hw hK hc i pins s σ H E I hf st hg
  subst hP hw hK
  obtain⟨f0,f1,f2,f3,f4,f5⟩:=hf it (by simp)
  exact wpAny_pyNext_range_end (I.ok.hd hc) st (by have:n<=i:=hg;omega) λh' eb=>⟨rfl,I.turned (t':=s.toks) (λb o hb e=>eb b o hb e) f0 f1 f3 f4 f5⟩
 self:=λ_ _ _ _ _ st h=>wpAny_pyIter_rangeiter st h
section
variable {X:Cx}{tg:Expr}
noncomputable def iRevR (ta:TA):TI:=fun σ H R=>ta σ H λvs H1=>∃(a:Addr) (lo hi:Int),vs=[.ref a]/\H1 a=some (.rng lo hi)/\-(2 ^ 62)<=lo/\lo<2 ^ 62/\-(2 ^ 62)<=hi/\hi<2 ^ 62/\R (Itrv lo (hi-lo).toNat) H1
theorem Zmv {e:Expr}{ta:TA}{p pos:Pos} (hg:Gl X "reversed") (hm:X.mg "reversed"=none) (ha:PA X [e] ta) (hs:starEach [e] X.env=[(false,eval e X.env)]:=by rfl):PI X tg (.Call (.Name "reversed" p) [e] [] pos) (iRevR ta):=by
 intro pins s σ H R I h
 refine wpAny_Call_Name_kw (Zbc I hg hm PyProof.Rows.boot_reversed ?_)
 refine PyProof.Rows.callWith_type1 (thn (ha pos pins s σ H _ I h) λus s1 ⟨vs,H1,I1,r1,a,lo,hi,e1,hq,h1,h2,h3,h4,q⟩=>?_) hs (by rfl)
 subst e1
 obtain⟨u,rfl,ru⟩:=r1.one
 cases(show u=Value.ref a from ru)
 obtain⟨t,u,v,hob⟩:=(show ∃t u v,s1.heap.get? a=some {cls:=.type "range",data:=.fields #[.int lo t,.int hi u,.int 1 v]}from I1.hok a _ hq)
 refine ZfD hob (Zng h1 h2 h3 h4) ?_
 refine wpAny_pyIter_rangeiter (it:=s1.heap.objs.size) (x:=lo+(Builtin.Range.rangeSize lo hi 1-1)*1) (left:=Builtin.Range.rangeSize lo hi 1) (step:=-1) (Yp _ rfl) ?_
 refine⟨s1.heap.objs.size,[s1.heap.objs.size],_,_,H1,rfl,I1.kept (t':=s1.toks) λb o e=>Yk _ e,Zkz _ lo (hi-lo).toNat,?_,λb hb=>?_,q⟩
 ·have e2:(((hi-lo).toNat:Nat):Int)-((0:Nat):Int)=Builtin.Range.rangeSize lo hi 1:=by rw[rangeSize_one];split<;>omega
  have e1:lo+((hi-lo).toNat:Nat)-1+((0:Nat):Int)*(-1)=lo+(Builtin.Range.rangeSize lo hi 1-1)*1:=by rw[<-e2];omega
  show IsRangeIter _ _ (lo+((hi-lo).toNat:Nat)-1+((0:Nat):Int)*(-1)) ((((hi-lo).toNat:Nat):Int)-((0:Nat):Int)) (-1)
  rw[e1,e2]
  exact Yp _ rfl
 ·have e:b=s1.heap.objs.size:=by simpa using hb
  subst e
  exact I1.Zjh (Yd _) (I1.hok.fresh (Yd _))
end
end L2
namespace L2
noncomputable def Z1:List Int->Int->Nat×Int
 |[],x=>(0,x)
 |a::ws,x=>if a<=x then ((Z1 ws (x-a)).1+1,(Z1 ws (x-a)).2)else (0,x)
theorem ZfE:∀(ws:List Int) (x:Int),0<=x->x<ws.sum->(Z1 ws x).1<ws.length/\0<=(Z1 ws x).2/\(Z1 ws x).2<ws.getD (Z1 ws x).1 0
 |[],x,h0,h1=>by simp at h1;omega
 |a::ws,x,h0,h1=>by
  rw[List.sum_cons]at h1
  unfold Z1
  by_cases h:a<=x
  ·rw[Yc h]
   have ih:=ZfE ws (x-a) (by omega) (by omega)
   refine⟨by simp;omega,ih.2.1,?_⟩
   simpa using ih.2.2
  ·rw[Yb h]
   exact⟨by simp,h0,by simp;omega⟩
noncomputable def Za5 (r st:Nat):List Int:=(List.range (st+1)).map λf=>goN r (st+1-f)
theorem Zf9 (r st:Nat):(Za5 r st).length=st+1:=by simp[Za5]
theorem ZoC {r st f:Nat} (h:f<st+1):(Za5 r st).getD f 0=goN r (st+1-f):=by simp[Za5,Yg,h]
theorem Zez (r:Nat):∀st,(Za5 r st).sum=goN (r+1) st
 |0=>by simp[Za5,goN]
 |st+1=>by
  rw[Zkx,<-Zez r st]
  unfold Za5
  rw[List.range_succ_eq_map,YA,List.sum_cons,YU,Int.add_comm]
  congr 2
  refine List.map_congr_left λf _=>?_
  show goN r (st+1+1-(f+1))=_
  congr 1;omega
theorem Zhe:∀r j,1<=goN r j
 |0,_=>by simp[goN]
 |r+1,0=>by rw[Znf];exact Zhe r 1
 |r+1,j+1=>by
  rw[Zkx]
  have:=Zhe (r+1) j
  have:=Zhe r (j+2)
  omega
noncomputable def Z8 (n:Nat) (x:Int):Nat->List Nat×Int
 |0=>([],x)
 |k+1=>((Z8 n x k).1++[(Z1 (Za5 (n-1-k) (ZD (Z8 n x k).1 k)) (Z8 n x k).2).1],(Z1 (Za5 (n-1-k) (ZD (Z8 n x k).1 k)) (Z8 n x k).2).2)
noncomputable def ZoD (n:Nat) (x:Int):List Nat:=(Z8 n x n).1
theorem ZjA {n:Nat}{x:Int} (h0:0<=x) (h1:x<goN n 0):∀k,k<=n->(Z8 n x k).1.length=k/\Zbz (Z8 n x k).1/\0<=(Z8 n x k).2/\(Z8 n x k).2<goN (n-k) (ZD (Z8 n x k).1 k)
 |0,_=>⟨rfl,λk hk=>absurd hk (Nat.not_lt_zero _),h0,h1⟩
 |k+1,hk=>by
  obtain⟨a,b,c,d⟩:=ZjA h0 h1 k (by omega)
  have ew:goN (n-k) (ZD (Z8 n x k).1 k)=(Za5 (n-1-k) (ZD (Z8 n x k).1 k)).sum:=by
   rw[Zez];congr 1;omega
  rw[ew]at d
  have P:=ZfE _ _ c d
  rw[Zf9]at P
  rw[ZoC P.1]at P
  unfold Z8
  generalize Z1 (Za5 (n-1-k) (ZD (Z8 n x k).1 k)) (Z8 n x k).2=p at P
  generalize (Z8 n x k).1=ds at a b P
  have el:(ds++[p.1]).getD k 0=p.1:=by simp[Yg,<-a]
  refine⟨by simp[a],λj hj=>?_,P.2.1,?_⟩
  ·rw[YD,List.length_singleton,a]at hj
   rw[ZbN _ _ _ (by omega)]
   by_cases z:j=k
   ·subst z;rw[el];omega
   ·have:=b j (by omega)
    rwa [show(ds++[p.1]).getD j 0=ds.getD j 0 by rw[Yg,Yg,YS (by omega)]]
  ·show p.2<goN (n-(k+1)) (ZD (ds++[p.1]) k-(ds++[p.1]).getD k 0+1)
   rw[el,ZbN _ _ _ (by omega)]
   have e1:n-(k+1)=n-1-k:=by omega
   have e2:ZD ds k-p.1+1=ZD ds k+1-p.1:=by omega
   rw[e1,e2];exact P.2.2
theorem Znh {n:Nat}{x:Int}{k:Nat} (hl:(Z8 n x k).1.length=k):ZD (Z8 n x (k+1)).1 (k+1)=ZD (Z8 n x k).1 k-(Z1 (Za5 (n-1-k) (ZD (Z8 n x k).1 k)) (Z8 n x k).2).1+1:=by
 show ZD ((Z8 n x k).1++[_]) k-((Z8 n x k).1++[_]).getD k 0+1=_
 rw[ZbN _ _ _ (by omega)]
 congr 2
 generalize (Z1 (Za5 (n-1-k) (ZD (Z8 n x k).1 k)) (Z8 n x k).2).1=d
 generalize (Z8 n x k).1=ds at hl
 subst hl
 simp[Yg]
theorem ZlB {ws:List Int}{i:Nat}{x a:Int} (h:ws[i]?=some a):Z1 (ws.drop i) x=if a<=x then ((Z1 (ws.drop (i+1)) (x-a)).1+1,(Z1 (ws.drop (i+1)) (x-a)).2)else (0,x):=by
 obtain⟨h1,h2⟩:=Yr.mp h
 rw[List.drop_eq_getElem_cons h1,h2];rfl
end L2
namespace L2
open PySem PySem.Spec PyProof.Rows PySem.W
end L2
namespace L2
theorem pickN_sum:∀(ws:List Int) (x:Int),x=(ws.take (Z1 ws x).1).sum+(Z1 ws x).2
 |[],x=>by simp[Z1]
 |a::ws,x=>by
  unfold Z1
  by_cases h:a<=x
  ·rw[Yc h]
   have:=pickN_sum ws (x-a)
   show x=((a::ws).take ((Z1 ws (x-a)).1+1)).sum+_
   rw[List.take_succ_cons,List.sum_cons]
   omega
  ·rw[Yb h];simp
theorem ZlC {r st d:Nat} (h:d<=st+1):((Za5 r st).take d).sum=ZeL r st d:=by
 unfold Za5 ZeL
 rw[<-List.map_take,List.take_range,Nat.min_eq_left h]
theorem ZcS (r st d:Nat):ZeL r st (d+1)=ZeL r st d+goN r (st+1-d):=by
 unfold ZeL
 rw[YJ,YM,List.sum_append];simp
theorem ZcT (r st:Nat) {d e:Nat} (h:d<=e):ZeL r st d<=ZeL r st e:=by
 induction h with
 |refl=>exact Int.le_refl _
 |@step m _ ih =>
  rw[ZcS]
  have:=Zhe r (st+1-m)
  omega
theorem Zni (r st:Nat):ZeL r st (st+1)=goN (r+1) st:=by
 rw[<-Zez,<-ZlC (Yd _),List.take_of_length_le (by rw[Zf9];exact Yd _)]
noncomputable def rk:Nat->List Nat->Int
 |_,[]=>0
 |st,d::ds=>ZeL ds.length st d+rk (st-d+1) ds
noncomputable def Ok:Nat->List Nat->Prop
 |_,[]=>True
 |st,d::ds=>d<=st/\Ok (st-d+1) ds
theorem ZoE:∀(ds:List Nat) (st:Nat),Ok st ds->0<=rk st ds/\rk st ds<goN ds.length st
 |[],st,_=>by simp[rk,goN]
 |d::ds,st,h=>by
  obtain⟨h1,h2⟩:=ZoE ds (st-d+1) h.2
  have hd:d<=st:=h.1
  unfold rk
  rw[Yn]
  have h3:=ZcT ds.length st (Ym d)
  have h4:=ZcT ds.length st (show d+1<=st+1 by omega)
  rw[Zni,ZcS]at h4
  have h5:ZeL ds.length st 0=0:=rfl
  rw[show st-d+1=st+1-d by omega]at h1 h2⊢
  omega
open PySem in
theorem rk_lt:∀(ds es:List Nat) (st:Nat),ds.length=es.length->Ok st ds->Ok st es->(HT.lexLt (ds.map λ(d:Nat)=>(d:Int)) (es.map λ(d:Nat)=>(d:Int))=true↔rk st ds<rk st es)
 |[],[],st,_,_,_=>by simp[rk,HT.lexLt]
 |d::ds,e::es,st,hl0,h1,h2=>by
  have hl:ds.length=es.length:=by simpa using hl0
  clear hl0
  obtain⟨a0,a1⟩:=ZoE ds (st-d+1) h1.2
  obtain⟨b0,b1⟩:=ZoE es (st-e+1) h2.2
  have hd:d<=st:=h1.1
  have he:e<=st:=h2.1
  rw[rk,rk,YA,YA,HT.Zlm]
  rcases Nat.lt_trichotomy d e with z|z|z
  ·have h3:=ZcT ds.length st (show d+1<=e by omega)
   rw[ZcS]at h3
   rw[Yb (by omega),decide_eq_true_iff]
   rw[show st-d+1=st+1-d by omega]at a1 a0⊢
   rw[<-hl]
   exact⟨λ_=>by omega,λ_=>by omega⟩
  ·subst z
   have ih:=rk_lt ds es (st-d+1) hl h1.2 h2.2
   rw[Yc rfl,ih,<-hl]
   exact⟨λh=>by omega,λh=>by omega⟩
  ·have h3:=ZcT ds.length st (show e+1<=d by omega)
   rw[ZcS]at h3
   rw[Yb (by omega),decide_eq_true_iff]
   rw[show st-e+1=st+1-e by omega,<-hl]at b1
   rw[show st-e+1=st+1-e by omega,<-hl]
   rw[show st-e+1=st+1-e by omega]at b0
   exact⟨λh=>by omega,λh=>by omega⟩
end L2
namespace L2
open PySem PySem.Spec PyProof.Rows PySem.W
end L2
namespace L2
open PySem PySem.Spec PyProof.Rows PySem.W
noncomputable def ZfF (P:Program) (w:World) (K:Frag) (mg:Str->Option Value) (base:Heap) (c:Str) (k:Nat) (ps:List Str) (sp:Sp):Prop :=
 ∃f fd,Mk K (clsAt mg c) f/\mg c=some (.ref (clsAt mg c))/\Binds K fd ps []/\FnOk P w K mg base (CXE P w) k f fd ps sp
noncomputable def Zad (P:Program) (w:World) (K:Frag) (mg:Str->Option Value) (base:Heap) (c m:Str) (k:Nat) (ps:List Str) (sp:Sp):Prop :=
 ∃f fd,Cls K (clsAt mg c)/\Meth K (clsAt mg c) m f/\Binds K fd ps []/\FnOk P w K mg base (CXE P w) k f fd ps sp
section
variable {X:Cx}{a:Expr}{ta:TE}{pos:Pos}
noncomputable def tFldC (C:Addr) (ta:TE) (f:Str):TE:=fun σ H Q=>ta σ H λx H1=>∃(o dx:Addr) (fs:List (Str×V)) (v:V),x=.ref o/\H1 o=some (.ins C dx fs)/\fs.lookup f=some v/\Q v H1
theorem Z0 {K:Frag}{C:Addr}{f:Str} (hK:X.K=K) (c:Cls K C) (n:NoAttr K C f) (he:PE X a ta) (hb:attributeBase a f X.env (eval a X.env)=eval a X.env:=by rfl):PE X (.Attribute a f pos) (tFldC C ta f):=by
 subst hK
 intro pins s σ H Q I h
 refine Zqi hb (thn (he pins s σ H _ I h) λu s1 ⟨x,H1,I1,rx,o,dx,fs,v,ex,ea,l,q⟩=>?_)
 subst ex
 obtain rfl:u=Value.ref o:=rx
 exact Zlh I1 ea c n l λu' s2 I2 ru=>⟨v,H1,I2,ru,q⟩
noncomputable def sFldC (C:Addr) (ta tv:TE) (f:Str):TS:=λD σ H=>tv σ H λy H1=>ta σ H1 λx H2=>∃(o dx:Addr) (fs:List (Str×V)),x=.ref o/\H2 o=some (.ins C dx fs)/\fs.length<1000/\D.nx σ (upd H2 o (.ins C dx (ZaY f y fs)))
theorem ZeA {K:Frag}{C:Addr}{f:Str}{value:Expr}{tv:TE}{pos':Pos} (hK:X.K=K) (c:Cls K C) (n:NoAttr K C f) (ha:PE X a ta) (hv:PE X value tv) (hs:swapsWith value (some (.Attribute a f pos')) pos.line X.env=pure false:=by rfl):PS X (.Assign [.Attribute a f pos'] value pos) (sFldC C ta tv f):=by
 subst hK
 intro pins s σ H D I h
 refine plainObj_wpAny_Assign_Attribute (thn (hv pins s σ H _ I h) λu s1 ⟨y,H1,I1,ry,q⟩=>thn (ha pins s1 σ H1 _ I1 q) λov s2 ⟨x,H2,I2,rx,o,dx,fs,ex,ea,l,q2⟩=>?_) hs
 subst ex
 obtain rfl:ov=Value.ref o:=rx
 exact Zli I2 ea c n l ry λs3 I3=>⟨σ,_,I3,q2⟩
theorem ZhM {x:Str}{k:Nat}{ps:List Str}{sp:Sp}{E:XK}{e:Expr}{es:List Expr}{t:TA}{p:Pos}{mg:Str->Option Value} (hmg:X.mg=mg) (C:ZfF X.prog X.w X.K mg X.base x k ps sp) (hr:Room (k+1) X.A) (hg:Gl X x) (hx:Passes (CXE X.prog X.w) X E)
  (ha:PA X (e::es) t) (hdb:(x==("__debug__":Str))=false:=by decide) (he:starEach (e::es) X.env=(false,eval e X.env)::starEach es X.env:=by rfl) (hpl:(backTo pos (starEach es X.env)).any (·.1)=false:=by rfl) :
  PE X (.Call (.Name x p) (e::es) [] pos) (tMake (clsAt mg x) sp [] E t):=by
 subst hmg
 obtain⟨f,fd,hM,hm,hb,F⟩:=C
 exact Zql hM F hr hg hm hb .nil hx ha hdb he hpl
theorem ZdA {c m:Str}{k:Nat}{ps:List Str}{sp:Sp}{E:XK}{e:Expr}{es:List Expr}{t:TA}{apos:Pos}{mg:Str->Option Value} (hmg:X.mg=mg) {pl:Sem Bool} (C:Zad X.prog X.w X.K mg X.base c m k ps sp) (hr:Room k X.A) (hx:Passes (CXE X.prog X.w) X E) (he:PE X a ta)
  (ha:PA X (e::es) t) (hst:starEach (e::es) X.env=(false,eval e X.env)::starEach es X.env:=by rfl) (hpl:(backTo pos (starEach es X.env)).any (·.1)=false:=by rfl)
  (ht:eval (.Call (.Attribute a m apos) (e::es) [] pos) X.env=(do
   let ov <-eval a X.env
   standAt apos.atName
   let (f,first) <-holding [ov] (getMethod ov m pl)
   callWith pos f first (backTo pos (starEach (e::es) X.env)) (backToKw pos (keywordEach [] X.env))):=by rfl) :
  PE X (.Call (.Attribute a m apos) (e::es) [] pos) (tMeth (clsAt mg c) m sp [] E ta t):=by
 subst hmg
 obtain⟨f,fd,hc,hm,hb,F⟩:=C
 exact Zqk he hc hm F hr hb .nil hx ha hst hpl ht
theorem ZeB {c m:Str}{k:Nat}{ps:List Str}{sp:Sp}{E:XK}{apos:Pos}{mg:Str->Option Value} (hmg:X.mg=mg) {pl:Sem Bool} (C:Zad X.prog X.w X.K mg X.base c m k ps sp) (hr:Room k X.A) (hx:Passes (CXE X.prog X.w) X E) (he:PE X a ta)
  (ht:eval (.Call (.Attribute a m apos) [] [] pos) X.env=(do
   let ov <-eval a X.env
   standAt apos.atName
   let (f,first) <-holding [ov] (getMethod ov m pl)
   callWith pos f first (backTo pos (starEach [] X.env)) (backToKw pos (keywordEach [] X.env))):=by rfl) :
  PE X (.Call (.Attribute a m apos) [] [] pos) (tMeth (clsAt mg c) m sp [] E ta tNil):=by
 subst hmg
 obtain⟨f,fd,hc,hm,hb,F⟩:=C
 exact Zn2 he hc hm F hr hb .nil hx ht
end
end L2
namespace L2
open PySem PySem.Spec PyProof.Rows
section
variable {κ:Type} [DecidableEq κ]
noncomputable def Zag (kvs:List (κ×V)) (k:κ):Option V:=(kvs.find? λkv=>decide (kv.1=k)).map (·.2)
noncomputable def putK (kvs:List (κ×V)) (k:κ) (v:V):List (κ×V) :=
 if (kvs.any λkv=>decide (kv.1=k))=true then kvs.map (λkv=>if kv.1=k then (kv.1,v)else kv)else kvs++[(k,v)]
theorem ZaF {p:κ×V}{r:List (κ×V)}{k:κ} (e:p.1=k):Zag (p::r) k=some p.2:=by simp[Zag,List.find?_cons,e]
theorem ZaG {p:κ×V}{r:List (κ×V)}{k:κ} (e:¬ p.1=k):Zag (p::r) k=Zag r k:=by simp[Zag,List.find?_cons,e]
theorem ZdB (k:κ):∀kvs:List (κ×V),(kvs.any λkv=>decide (kv.1=k))=(Zag kvs k).isSome
 |[]=>rfl
 |p::r=>by
  rw[List.any_cons]
  by_cases e:p.1=k
  ·simp only[ZaF e,Y2 e,Bool.true_or,Option.isSome_some]
  ·rw[ZaG e,YR e,Bool.false_or];exact ZdB k r
theorem ZkA (k j:κ) (y:V):∀kvs:List (κ×V),Zag (kvs.map λkv=>if kv.1=k then (kv.1,y)else kv) j=(Zag kvs j).map λx=>if j=k then y else x
 |[]=>rfl
 |p::r=>by
  have ih:=ZkA k j y r
  rw[YA]
  by_cases h:p.1=k
  ·rw[Yc h]
   by_cases e:p.1=j
   ·rw[ZaF (p:=(p.1,y)) e,ZaF e,Option.map_some,Yc (e.symm.trans h)]
   ·rw[ZaG (p:=(p.1,y)) e,ZaG e,ih]
  ·rw[Yb h]
   by_cases e:p.1=j
   ·rw[ZaF (p:=p) e,ZaF e,Option.map_some,Yb (λz=>h (e.trans z))]
   ·rw[ZaG (p:=p) e,ZaG e,ih]
theorem Zi0 (k j:κ) (y:V):∀kvs:List (κ×V),Zag kvs k=none->Zag (kvs++[(k,y)]) j=if j=k then some y else Zag kvs j
 |[],_=>by
  by_cases e:k=j
  ·rw[Yc e.symm];exact ZaF (p:=(k,y)) e
  ·rw[Yb (λz=>e z.symm)];exact ZaG (p:=(k,y)) e
 |p::r,hn=>by
  rw[List.cons_append]
  have hk:¬ p.1=k:=λz=>by rw[ZaF z]at hn;cases hn
  rw[ZaG hk]at hn
  have ih:=Zi0 k j y r hn
  by_cases e:p.1=j
  ·rw[ZaF e,ZaF e,Yb (λz=>hk (e.trans z))]
  ·rw[ZaG e,ZaG e,ih]
theorem ZbR (kvs:List (κ×V)) (k j:κ) (y:V):Zag (putK kvs k y) j=if j=k then some y else Zag kvs j:=by
 unfold putK
 by_cases a:(kvs.any λkv=>decide (kv.1=k))=true
 ·rw[Yc a,ZkA]
  rw[ZdB]at a
  by_cases e:j=k
  ·obtain⟨x,hx⟩:=Option.isSome_iff_exists.mp a
   rw[Yc e,e,hx,Option.map_some,Yc rfl]
  ·rw[Yb e]
   cases Zag kvs j with
   |none=>rfl
   |some x=>rw[Option.map_some,Yb e]
 ·rw[Yb a]
  refine Zi0 k j y kvs ?_
  rw[ZdB]at a
  cases q:Zag kvs k with
  |none=>rfl
  |some x=>rw[q]at a;exact(a rfl).elim
theorem Zbr (kvs:List (κ×V)) (k:κ) (v:V):(putK kvs k v).length<=kvs.length+1:=by
 unfold putK
 split
 ·rw[Yi];omega
 ·rw[YD,Yn,List.length_nil];omega
theorem Zdp.Zga {o:Option V}{u:Option Value} (r:Zdp o u):o.isSome=u.isSome:=by
 cases o with
 |none=>cases u with
  |none=>rfl
  |some _=>exact(show False from r).elim
 |some _=>cases u with
  |none=>exact(show False from r).elim
  |some _=>rfl
theorem KV.val {kvs:List (κ×V)}{vs:List (κ×Value)} (r:KV kvs vs) (k:κ):Zdp (Zag kvs k) (valueAt vs k):=by
 unfold KV at r
 induction r with
 |nil=>exact True.intro
 |@cons p q ps qs h t ih =>
  obtain⟨h1,h2⟩:=h
  by_cases e:p.1=k
  ·have e':q.1=k:=h1.symm.trans e
   have b:valueAt (q::qs) k=some q.2:=by simp[valueAt,List.find?_cons,e']
   rw[ZaF e,b];exact h2
  ·have e':¬ q.1=k:=λz=>e (h1.trans z)
   have b:valueAt (q::qs) k=valueAt qs k:=by simp[valueAt,List.find?_cons,e']
   rw[ZaG e,b];exact ih
theorem KV.any {kvs:List (κ×V)}{vs:List (κ×Value)} (r:KV kvs vs) (k:κ):(kvs.any λkv=>decide (kv.1=k))=vs.any λkv=>decide (kv.1=k):=by
 unfold KV at r
 induction r with
 |nil=>rfl
 |cons h t ih=>rw[List.any_cons,List.any_cons,ih,h.1]
theorem KV.repl {kvs:List (κ×V)}{vs:List (κ×Value)} (r:KV kvs vs) (k:κ) {y:V}{u:Value} (ry:RelV y u) :
  KV (kvs.map λkv=>if kv.1=k then (kv.1,y)else kv) (vs.map λkv=>if kv.1=k then (kv.1,u)else kv):=by
 unfold KV at r⊢
 induction r with
 |nil=>exact .nil
 |@cons p q ps qs h t ih =>
  rw[YA,YA]
  refine .cons ?_ ih
  obtain⟨h1,h2⟩:=h
  by_cases e:p.1=k
  ·rw[Yc e,Yc (h1.symm.trans e)];exact⟨h1,ry⟩
  ·rw[Yb e,Yb (λz=>e (h1.trans z))];exact⟨h1,h2⟩
theorem KV.put {kvs:List (κ×V)}{vs:List (κ×Value)} (r:KV kvs vs) (k:κ) {y:V}{u:Value} (ry:RelV y u):KV (putK kvs k y) (stored vs k u):=by
 unfold putK stored
 rw[r.any k]
 by_cases e:(vs.any λkv=>decide (kv.1=k))=true
 ·rw[Yc e,Yc e];exact r.repl k ry
 ·rw[Yb e,Yb e];exact Paired.snoc r ⟨rfl,ry⟩
theorem KV.length {kvs:List (κ×V)}{vs:List (κ×Value)} (r:KV kvs vs):kvs.length=vs.length:=Paired.length r
end
theorem Zmw {P:Program}{w:World}{k:Key}{u:Value} (r:RelV (kV k) u):(Zay P w).is k u=true:=by
 cases k with
 |inl i=>obtain⟨t,e⟩:=(show ∃t,u=Value.int i t from r);subst e;exact Zkb P w i t
 |inr x=>obtain⟨t,e⟩:=(show ∃t,u=Value.str x t from r);subst e;exact Zkc P w x t
theorem Zi1 {P:Program}{w:World}:∀{ks:List Key}{us:List Value},Vals (ks.map kV) us->ItemsAre (Zay P w) ks us
 |[],_,r=>by rw[List.map_nil]at r;cases r;exact .nil
 |k::ks,_,r=>by
  rw[YA]at r
  cases r with
  |cons h t=>exact .cons (Zmw h) (Zi1 t)
noncomputable abbrev KT (H:Hp):List (List Key×V)->List (List Key×Addr×Value)->Prop:=Paired λp q=>p.1=q.1/\H q.2.1=some (.tup (p.1.map kV))/\RelV p.2 q.2.2
theorem KT.val {H:Hp}{kvs:List (List Key×V)}{xs:List (List Key×Addr×Value)} (r:KT H kvs xs) (k:List Key):Zdp (Zag kvs k) ((atKey xs k).map (·.2)):=by
 induction r with
 |nil=>exact True.intro
 |@cons p q ps qs h t ih =>
  obtain⟨h1,_,h2⟩:=h
  by_cases e:p.1=k
  ·have e':q.1=k:=h1.symm.trans e
   have b:atKey (q::qs) k=some q.2:=by simp[atKey,List.find?_cons,e']
   rw[ZaF e,b];exact h2
  ·have e':¬ q.1=k:=λz=>e (h1.trans z)
   have b:atKey (q::qs) k=atKey qs k:=by simp[atKey,List.find?_cons,e']
   rw[ZaG e,b];exact ih
theorem KT.repl {H:Hp}{kvs:List (List Key×V)}{xs:List (List Key×Addr×Value)} (r:KT H kvs xs) (k:List Key) {y:V}{u:Value} (ry:RelV y u) :
  KT H (kvs.map λkv=>if kv.1=k then (kv.1,y)else kv) (xs.map (putAt k u)):=by
 induction r with
 |nil=>exact .nil
 |@cons p q ps qs h t ih =>
  rw[YA,YA]
  refine .cons ?_ ih
  obtain⟨h1,h2,h3⟩:=h
  unfold putAt
  by_cases e:p.1=k
  ·rw[Yc e,Yc (h1.symm.trans e)];exact⟨h1,h2,ry⟩
  ·rw[Yb e,Yb (λz=>e (h1.trans z))];exact⟨h1,h2,h3⟩
theorem KT.put {H:Hp}{kvs:List (List Key×V)}{xs:List (List Key×Addr×Value)} (r:KT H kvs xs) (k:List Key) {b:Addr}{y:V}{u:Value} (hb:H b=some (.tup (k.map kV))) (ry:RelV y u) :
  KT H (putK kvs k y) (storedH xs k b u):=by
 have e:(kvs.any λkv=>decide (kv.1=k))=(atKey xs k).isSome:=by
  rw[ZdB,(r.val k).Zga,Option.isSome_map]
 unfold putK storedH
 rw[e]
 by_cases q:(atKey xs k).isSome=true
 ·rw[Yc q,Yc q];exact r.repl k ry
 ·rw[Yb q,Yb q];exact Paired.snoc r ⟨rfl,hb,ry⟩
theorem KT.keeps {H H':Hp}{kvs:List (List Key×V)}{xs:List (List Key×Addr×Value)} (r:KT H kvs xs) (ht:∀b ys,H b=some (.tup ys)->H' b=some (.tup ys)):KT H' kvs xs :=
 Paired.mapP r λ_ _ z=>⟨z.1,ht _ _ z.2.1,z.2.2⟩
section
variable {P:Program}{w:World}{H:Hp}{h:Heap}{a:Addr}
theorem rd_of {u:HO} (ok:HOk P w H h) (e:Rd H a u):ZW P w H h a u:=e.ok ok
theorem Zmx {kvs:List (Key×V)} (ok:HOk P w H h) (e:Rd H a (.dK kvs)):kvs.length<=sizeLine/\(a==sysModules)=false/\∃vs,KV kvs vs/\h.DictOf (Zay P w) a vs :=
 show ZW P w H h a (.dK kvs)from rd_of ok e
theorem dk_of {kvs:List (Key×V)} (ok:HOk P w H h) (e:H a=some (.dK kvs)):kvs.length<=sizeLine/\(a==sysModules)=false/\∃vs,KV kvs vs/\h.DictOf (Zay P w) a vs:=Zmx ok (.inl e)
theorem ZjB {ks:List Key} (ok:HOk P w H h) (e:H a=some (.tup (ks.map kV))):(tupleKind (Zay P w)).is h ks a:=by
 obtain⟨_,its,r,o,h1,h2,n,h3⟩:=(show ZW P w H h a (.tup (ks.map kV))from ok a _ e)
 exact⟨o,its.toArray,n,h1,h2,h3,by simpa using Zi1 r⟩
theorem Zmy {kvs:List (List Key×V)} (ok:HOk P w H h) (e:Rd H a (.dT kvs)):kvs.length<=sizeLine/\(a==sysModules)=false /\
  ∃xs,KT H kvs xs/\h.DictOfH (tupleKind (Zay P w)) a xs:=by
 obtain⟨z,y,xs,r,o,es,ep,h1,h2,h3,h4,h5⟩:=(show ZW P w H h a (.dT kvs)from rd_of ok e)
 refine⟨z,y,xs,r,o,es,ep,h1,h2,h3,h4,λx hx=>?_,h5⟩
 have all:∀{l:List (List Key×V)}{m:List (List Key×Addr×Value)},KT H l m->∀x∈m,(tupleKind (Zay P w)).is h x.1 x.2.1:=by
  intro l m q
  induction q with
  |nil=>intro x hx;exact nomatch hx
  |@cons p q ps qs hq t ih =>
   intro x hx
   rcases Yo.mp hx with e|hx
   ·subst e
    exact ZjB ok (by rw[<-hq.1];exact hq.2.1)
   ·exact ih x hx
 exact all r x hx
theorem dt_of {kvs:List (List Key×V)} (ok:HOk P w H h) (e:H a=some (.dT kvs)):kvs.length<=sizeLine/\(a==sysModules)=false /\
  ∃xs,KT H kvs xs/\h.DictOfH (tupleKind (Zay P w)) a xs:=Zmy ok (.inl e)
end
noncomputable def ZkB (H:Hp) (a:Addr) (y:V) (r:Option V):Prop :=
 (∃kvs k,Rd H a (.dK kvs)/\y=kV k/\r=Zag kvs k)\/∃kvs k b,Rd H a (.dT kvs)/\y=.ref b/\H b=some (.tup (k.map kV))/\r=Zag kvs k
noncomputable def DPut (H:Hp) (a:Addr) (y v:V) (H':Hp):Prop :=
 (∃kvs k,H a=some (.dK kvs)/\y=kV k/\kvs.length<sizeLine/\H'=upd H a (.dK (putK kvs k v))) \/
 ∃kvs k b,H a=some (.dT kvs)/\y=.ref b/\H b=some (.tup (k.map kV))/\kvs.length<sizeLine/\H'=upd H a (.dT (putK kvs k v))
theorem ZkB.k {H:Hp}{a:Addr}{kvs:List (Key×V)}{k:Key} (e:H a=some (.dK kvs)):ZkB H a (kV k) (Zag kvs k):=.inl ⟨kvs,k,.inl e,rfl,rfl⟩
section
variable {X:Cx}{pins:List (Addr×Obj)}{σ:St}{H:Hp}{s:Shared}{a:Addr}{y v:V}{u r:Value}{o:Option V}{A:Around}{E:Value->Shared->Prop}
theorem Inv.big (I:Inv X pins σ H s):sysModules<s.heap.objs.size:=by
 have h:mainGlobals<s.heap.objs.size:=(I.mod.glob.keeps I.bk).lt
 exact Nat.lt_trans (by decide) h
theorem Znj {Q:Value->Shared->Prop} (hu:A.units+1<cLine) (I:Inv X pins σ H s) (g:ZkB H a y (some v)) (ry:RelV y u) (h:∀w' s',Inv X pins σ H s'->RelV v w'->Q w' s') :
  wpAny (model X.prog X.w) A (getItem (.ref a) u) Q E s:=by
 rcases g with⟨kvs,k,e,ey,l⟩|⟨kvs,k,b,e,ey,eb,l⟩
 ·subst ey
  obtain⟨z,hd,vs,rel,dd⟩:=Zmx I.hok e
  obtain⟨w',hw,rw'⟩:=Zdp.some_of (v:=v) (o:=valueAt vs k) (by rw[l];exact rel.val k)
  exact wpAny_getItem_of (Zmw ry) dd.mapOf hw (h w' _ (I.tok _) rw')
 ·subst ey
  cases(show u=Value.ref b from ry)
  obtain⟨z,hd,xs,rel,dd⟩:=Zmy I.hok e
  obtain⟨w',hw,rw'⟩:=Zdp.some_of (v:=v) (o:=(atKey xs k).map (·.2)) (by rw[l];exact rel.val k)
  obtain⟨p,hp,hp2⟩:=Option.map_eq_some_iff.mp hw
  refine wpAny_getItem_heap (tupleKind_room_in1 hu) (ZjB I.hok eb) dd hp ?_
  rw[hp2]
  exact h w' _ (I.tok _) rw'
theorem Zqz {Q:Value->Shared->Prop} (hu:A.units+1<cLine) (I:Inv X pins σ H s) (g:ZkB H a y o) (ry:RelV y u) (h:∀s',Inv X pins σ H s'->Q (.bool (!o.isSome)) s') :
  wpAny (model X.prog X.w) A (compareOp .NotIn u (.ref a)) Q E s:=by
 rcases g with⟨kvs,k,e,ey,l⟩|⟨kvs,k,b,e,ey,eb,l⟩
 ·subst ey
  obtain⟨z,hd,vs,rel,dd⟩:=Zmx I.hok e
  refine wpAny_notIn_of (Zmw ry) hd dd.mapOf ?_
  rw[<-(rel.val k).Zga,<-l]
  exact h _ (I.tok _)
 ·subst ey
  cases(show u=Value.ref b from ry)
  obtain⟨z,hd,xs,rel,dd⟩:=Zmy I.hok e
  refine wpAny_notIn_heap (tupleKind_room_in1 hu) (ZjB I.hok eb) hd dd ?_
  have q:=(rel.val k).Zga
  rw[Option.isSome_map]at q
  rw[<-q,<-l]
  exact h _ (I.tok _)
theorem Zhf {h':Heap}{t':Nat}{ob:HO} (I:Inv X pins σ H s) (mu:Mut (H a)) (hs:Heap.SameBut a s.heap h') (he:∃q,h'.get? a=some q) (new:ZW X.prog X.w (upd H a ob) h' a ob) :
  Inv X pins σ (upd H a ob) {s with heap:=h',toks:=t'} :=
 I.write (x:=a) (e:=a) mu (.inl rfl) (λb q hb z=>(hs.2 b hb).trans z) he new
theorem dk_new {P:Program}{w:World}{H':Hp}{h':Heap}{kvs:List (Key×V)}{vs:List (Key×Value)} (z:kvs.length<=sizeLine) (hd:(a==sysModules)=false) (rel:KV kvs vs) (dd:h'.DictOf (Zay P w) a vs) :
  ZW P w H' h' a (.dK kvs):=⟨z,hd,vs,rel,dd⟩
theorem Znk {H':Hp}{Q:Unit->Shared->Prop} (hu:A.units+1<cLine) (I:Inv X pins σ H s) (g:DPut H a y v H') (ry:RelV y u) (rv:RelV v r) (h:∀s',Inv X pins σ H' s'->Q () s') :
  wpAny (model X.prog X.w) A (setItem (.ref a) u r) Q E s:=by
 rcases g with⟨kvs,k,e,ey,l,eH⟩|⟨kvs,k,b,e,ey,eb,l,eH⟩
 ·subst ey eH
  obtain⟨z,hd,vs,rel,dd⟩:=dk_of I.hok e
  have hz:vs.length<=sizeLine:=by rw[<-rel.length];exact z
  have hl:(putK kvs k v).length<=sizeLine:=by have:=Zbr kvs k v;omega
  refine wpAny_setItem_pairs (hsz:=hz) (Zmw ry) dd λh' dd' hs=>h _ ?_
  have he:∃q,h'.get? a=some q:=let ⟨q,_,_,hq,_⟩:=dd';⟨q,hq⟩
  exact Zhf I (by rw[e];exact True.intro) hs he (dk_new hl hd (rel.put k rv) dd')
 ·subst ey eH
  cases(show u=Value.ref b from ry)
  obtain⟨z,hd,xs,rel,dd⟩:=dt_of I.hok e
  have hz:xs.length<=sizeLine:=by rw[<-Paired.length rel];exact z
  have hl:(putK kvs k v).length<=sizeLine:=by have:=Zbr kvs k v;omega
  refine wpAny_setItem_heap (hsz:=hz) (tupleKind_room_in1 hu) (ZjB I.hok eb) dd λh' dd' hs=>h _ ?_
  obtain⟨q,es,ep,hq,h2,h3,h4,_,h5⟩:=dd'
  refine Zhf I (by rw[e];exact True.intro) hs ⟨q,hq⟩ ⟨hl,hd,_,(rel.put k eb rv).keeps λc ys ec=>?_,q,es,ep,hq,h2,h3,h4,h5⟩
  rw[Zh (ne_of ec e (λz=>nomatch z))]
  exact ec
end
noncomputable def NoSl (i:Expr):Prop:=∀ov iv,subscripted i false ov iv=operate [ov,iv] (getItem ov iv)
theorem Zmz {prog:Program}{w:World}{A:Around}{E:Value->Shared->Prop}{s:Shared}{env:Env}{value slice:Expr}{pos:Pos}{T id:String}{Q:Value->Shared->Prop}
  (hl:typeLookup (.type T) "__getitem__"=pure (some (.builtin id))) (hs:NoSl slice)
  (h:wpAny (model prog w) A (eval value env) (λo s₁=>wpAny (model prog w) A (eval slice env) (λi s₂=>s₂.TypeIs o T/\wpAny (model prog w) A (getItem o i) Q E s₂) E s₁) E s) :
  wpAny (model prog w) A (eval (.Subscript value slice pos) env) Q E s:=by
 refine Subscript_ (YI h (λo s₁ h₁=>YI h₁ (λi s₂ h₂=>?_) λ_ _ x=>x) λ_ _ x=>x)
 obtain⟨hT,h₂⟩:=h₂
 unfold subscriptTail
 refine Ya ?_
 rw[getitemInPython_of_ne hT.not_modules]
 refine Ya (wpAny_specialOf hT hl ?_)
 have fin:wpAny (model prog w) A (subscripted slice false o i) (λr s₃=>wpAny (model prog w) A (letTemporaryGo value o r >>= λ_=>pure r) Q E s₃) E s₂:=by
  rw[hs o i]
  exact wpAny_operating (YI h₂ (λr s₃ h₃=>Ya (wpAny_letTemporaryGo (Ye h₃))) λ_ _ x=>x)
 first
  |exact Ye (Ya fin)
  |exact Ya (Ye (Ya fin))
  |exact Ya fin
theorem ZkC {X:Cx}{pins:List (Addr×Obj)}{σ:St}{H:Hp}{s:Shared}{a:Addr}{y:V}{o:Option V} (I:Inv X pins σ H s) (g:ZkB H a y o):s.TypeIs (.ref a) "dict":=by
 rcases g with⟨kvs,k,e,_,_⟩|⟨kvs,k,b,e,_,_,_⟩
 ·obtain⟨_,_,vs,_,dd⟩:=Zmx I.hok e
  exact dd.typeIs
 ·obtain⟨_,_,xs,_,dd⟩:=Zmy I.hok e
  exact dd.typeIs
noncomputable def tDGet (td ty:TE):TE:=fun σ H Q=>td σ H λx H1=>ty σ H1 λy H2=>∃a v,x=.ref a/\ZkB H2 a y (some v)/\Q v H2
noncomputable def tDNotIn (ty td:TE):TE:=fun σ H Q=>ty σ H λy H1=>td σ H1 λx H2=>∃a o,x=.ref a/\ZkB H2 a y o/\Q (.bl (!o.isSome)) H2
noncomputable def sDPut (td ty tv:TE):TS:=λD σ H=>tv σ H λv H1=>td σ H1 λx H2=>ty σ H2 λy H3=>∃a H4,x=.ref a/\DPut H3 a y v H4/\D.nx σ H4
section
variable {X:Cx}{o i e value:Expr}{pos pos' tpos:Pos}{td ty tv:TE}
theorem ZqA (hu:X.A.units+1<cLine) (ho:PE X o td) (hi:PE X i ty) (hs:NoSl i):PE X (.Subscript o i pos) (tDGet td ty):=by
 intro pins s σ H Q I h
 refine Zmz PySem.F.slot_dict_getitem.lookup hs (thn (ho pins s σ H _ I h) λu s1 ⟨x,H1,I1,rx,q1⟩=>thn (hi pins s1 σ H1 _ I1 q1) λiv s2 ⟨y,H2,I2,ry,a,v,ex,g,q2⟩=>?_)
 subst ex
 obtain rfl:u=Value.ref a:=rx
 exact⟨ZkC I2 g,Znj hu I2 g ry λw' s3 I3 rw'=>⟨v,H2,I3,rw',q2⟩⟩
theorem Znl (hu:X.A.units+1<cLine) (hi:PE X i ty) (ho:PE X o td):PC X .NotIn i o (tDNotIn ty td):=by
 intro pins s σ H Q I h
 refine thn (hi pins s σ H _ I h) λiv s1 ⟨y,H1,I1,ry,q1⟩=>thn (ho pins s1 σ H1 _ I1 q1) λu s2 ⟨x,H2,I2,rx,a,ov,ex,g,q2⟩=>?_
 subst ex
 obtain rfl:u=Value.ref a:=rx
 exact Zqz hu I2 g ry λs3 I3=>⟨.bl (!ov.isSome),H2,I3,rfl,q2⟩
theorem ZqB (hu:X.A.units+1<cLine) (ho:PE X o td) (hi:PE X i ty) (hv:PE X value tv) (hs:swapsWith value (some (.Subscript o i pos')) pos.line X.env=pure false) :
  PS X (.Assign [.Subscript o i pos'] value pos) (sDPut td ty tv):=by
 intro pins s σ H D I h
 refine wpAny_Assign_Subscript (thn (hv pins s σ H _ I h) λr s1 ⟨v,H1,I1,rv,q1⟩=>thn (ho pins s1 σ H1 _ I1 q1) λu s2 ⟨x,H2,I2,rx,q2⟩=>thn (hi pins s2 σ H2 _ I2 q2) λiv s3 ⟨y,H3,I3,ry,a,H4,ex,g,q3⟩=>?_) hs
 subst ex
 obtain rfl:u=Value.ref a:=rx
 exact Znk hu I3 g ry rv λs4 I4=>⟨σ,H4,I4,q3⟩
end
theorem ZoF {P:Program}{w:World}{H:Hp} (h:Heap) (hb:sysModules<h.objs.size):ZW P w H (h.push {cls:=.type "dict",data:=.dict #[]}) h.objs.size (.dK []) :=
 ⟨Ym _,beq_eq_false_iff_ne.mpr (Ne.symm (Yl hb)),[],.nil,Heap.DictOf.new h⟩
noncomputable def tDNewK:TE:=λ_ H Q=>∀p,H p=none->Q (.ref p) (upd H p (.dK []))
section
variable {X:Cx}{pos:Pos}
theorem ZoG:PE X (.Dict [] [] pos) tDNewK:=λpins s σ H Q I h =>
 wpAny_Dict_empty ⟨.ref s.heap.objs.size,_,I.laid (a:=s.heap.objs.size) (o:=.dK []) (t':=s.toks) (λ_ _ q=>Yk _ q) (Yd _) (ZoF s.heap I.big),rfl,h _ (I.hok.fresh (Yd _))⟩
end
noncomputable def ZoH:List (TE×TE)->St->Hp->(List (V×V)->Hp->Prop)->Prop
 |[],_,H,Q=>Q [] H
 |(tk,tv)::r,σ,H,Q=>tk σ H λx H1=>tv σ H1 λy H2=>ZoH r σ H2 λps H3=>Q ((x,y)::ps) H3
noncomputable abbrev VV:List (V×V)->List (Value×Value)->Prop:=Paired λp q=>RelV p.1 q.1/\RelV p.2 q.2
noncomputable def PPs (X:Cx) (pos:Pos) (keys:List (Option Expr)) (values:List Expr) (trs:List (TE×TE)):Prop :=
 ∀(pins:List (Addr×Obj)) (s:Shared) (σ:St) (H:Hp) (Q:List (V×V)->Hp->Prop),Inv X pins σ H s->ZoH trs σ H Q ->
  wpAny (model X.prog X.w) X.A (evalPairs (pairTrees keys values X.env pos)) (λvs s'=>∃ps H',Inv X pins σ H' s'/\VV ps vs/\Q ps H') X.xe s
theorem ZqC {X:Cx}{pos:Pos}:PPs X pos [] [] []:=λpins s σ H Q I h=>pairTrees_nil_walk ⟨[],H,I,.nil,h⟩
theorem ZoI {X:Cx}{pos:Pos}{k v:Expr}{ks:List (Option Expr)}{vs:List Expr}{tk tv:TE}{trs:List (TE×TE)} (hk:PE X k tk) (hv:PE X v tv) (hr:PPs X pos ks vs trs) :
  PPs X pos (some k::ks) (v::vs) ((tk,tv)::trs):=λpins s σ H Q I h =>
 pairTrees_cons_walk (thn (hk pins s σ H _ I h) λu s1 ⟨x,H1,I1,rx,q1⟩=>thn (hv pins s1 σ H1 _ I1 q1) λw2 s2 ⟨y,H2,I2,ry,q2⟩ =>
  thn (hr pins s2 σ H2 _ I2 q2) λws s3 ⟨ps,H3,I3,rel,q3⟩=>⟨(x,y)::ps,H3,I3,.cons ⟨rx,ry⟩ rel,q3⟩)
end L2
namespace L2
open PySem PySem.Spec PyProof.Rows PySem.W PySem.Calls
end L2
namespace L2
open PySem PySem.Spec PyProof.Rows PySem.W
noncomputable def sF (r:Addr) (f:Int) (t:Addr):List (Str×V):=ZaY "tree" (.ref t) (ZaY "first" (.int f) (ZaY "row" (.ref r) []))
end L2
namespace L2
open PySem PySem.Spec PyProof.Rows PySem.W PySem.Calls
end L2
namespace L2
open PySem PySem.Spec PyProof.Rows PySem.W
noncomputable def Znm (K:Frag) (f:Addr):Option Addr:=match K.lookup f with
 |some ⟨_,_,.func fd,_⟩=>(match fd.code with|.ref c=>some c|_=>none)
 |_=>none
noncomputable def tabOf (K:Frag) (c:Addr):Addr:=match K.lookup c with
 |some ⟨_,_,.fields vs,_⟩=>(match (vs[11]?:Option Value)with|some (.ref P)=>P|_=>0)
 |_=>0
noncomputable def ZjC (K:Frag) (mg:Str->Option Value) (x:Str):Addr:=match mg x with
 |some (.ref f)=>(match Znm K f with|some c=>tabOf K c|none=>0)
 |_=>0
noncomputable def ZhN (q:Str):HO:=.tbl #[.str q 0]
noncomputable def BM (mg:Str->Option Value) (base:Heap):Prop :=
 ∃bm o,mg "__builtins__"=some (.ref bm)/\bm≠builtinsNs/\bm≠mainGlobals/\base.get? bm=some o/\o.cls=.type "module"/\o.dict=some builtinsNs/\o.data=.plain
noncomputable def ZlD (env:Env) (P:Addr) (q:Str) (params:Arguments) (body:Expr) (scope:Scope) (H:Hp) (f:Addr):Prop :=
 ∃c oc vs t cl pm ctv,H f=some (.frz (kla_obj "<lambda>" q params body scope cl pm c ctv) (.own f))/\H c=some (.frz oc (.own P))/\oc.data=.fields vs/\vs[1]?=some (.str q t) /\
  (∀x c,cl.lookup x=some c->env.cells.lookup x=some c)/\(∀y∈scope.names,y.2=.free->∃c,cl.lookup y.1=some c/\env.cells.lookup y.1=some c)
theorem ZlD.same {env:Env}{P:Addr}{q:Str}{params:Arguments}{body:Expr}{scope:Scope}{H H':Hp}{f:Addr} (h:ZlD env P q params body scope H f) (s:Zf H H'):ZlD env P q params body scope H' f:=by
 obtain⟨c,oc,vs,t,cl,pm,ctv,e1,e2,r⟩:=h
 exact⟨c,oc,vs,t,cl,pm,ctv,s _ _ e1,s _ _ e2,r⟩
structure LamIn (X:Cx) (P:Addr) (q:Str):Prop where
 code:∃c,X.env.code=.ref c/\codeHdIn X.K c P=true
 bm:BM X.mg X.base
 ql:X.env.qual++"<lambda>"=q
theorem ZlE {pos:Pos}{a b:Int}{c cv:Value}:∀(l:List Value),TriplesOk l->codeAmong pos (l++[rawInt a,rawInt b,c])=some cv->codeAmong pos l=some cv\/cv=c:=by
 intro l h e
 fun_induction TriplesOk l with
 |case1 =>
  simp only[List.nil_append,codeAmong,rawInt]at e
  split at e
  ·cases e;exact .inr rfl
  ·cases e
 |case2 a' t b' u x rest ih =>
  simp only[List.cons_append,codeAmong]at e⊢
  split at e
  ·rename_i hc;rw[Yc hc];exact .inl e
  ·rename_i hc;rw[Yb hc];exact ih h e
 |case3 l h1 h2=>exact h.elim
section
variable {X:Cx}
theorem Inv.lam {pins:List (Addr×Obj)}{σ:St}{H:Hp}{s:Shared}{h':Heap}{t':Nat}{P c f:Addr}{q:Str}{oc fo:Obj}{ts:Array Value}{vs:Array Value}{tq:Tok}
  (I:Inv X pins σ H s) (hP:H P=some (ZhN q)) (k:∀b o,b≠P->s.heap.get? b=some o->h'.get? b=some o) (hts:h'.get? P=some (tabObj ts)) (h3:TriplesOk ts.toList)
  (hc:H c=some (.frz oc (.own P))\/s.heap.objs.size<=c) (hcP:c≠P) (hoc:h'.get? c=some oc) (hd:oc.data=.fields vs) (hv:vs[1]?=some (.str q tq)) (hf:s.heap.objs.size<=f) (hfc:f≠c) (hfo:h'.get? f=some fo)
  (hcodes:∀pos cv,codeAmong pos ts.toList=some cv->cv=.ref c\/∃c2 oc vs t t',cv=.ref c2/\H c2=some (.frz oc (.own P))/\oc.data=.fields vs/\vs[1]?=some (.str q t)/\t'=(0:Tok)) :
  Inv X pins σ (upd (upd H c (.frz oc (.own P))) f (.frz fo (.own f))) {s with heap:=h',toks:=t'}:=by
 have hPlt:P<s.heap.objs.size:=I.hok.lt hP
 have hfP:f≠P:=λz=>by rw[z]at hf;exact absurd (Yu hPlt hf) (YB _)
 have hfn:H f=none:=I.hok.fresh hf
 have up:∀b o,H b=some o->upd (upd H c (.frz oc (.own P))) f (.frz fo (.own f)) b=some o:=λb o e=>by
  have nf:b≠f:=Zo e hfn
  rw[Zh nf]
  rcases hc with hc|hc
  ·by_cases z:b=c
   ·subst z;rw[Zb,<-e,hc]
   ·rw[Zh z];exact e
  ·rw[Zh (Zo e (I.hok.fresh hc))];exact e
 have un:Un X.fs [] H (upd (upd H c (.frz oc (.own P))) f (.frz fo (.own f))) s.heap h':=by
  have nP:∀b,H b=none->b≠P:=λb n z=>by rw[z,hP]at n;cases n
  refine⟨λb o e n _ _=>k b o (nP b n) e,λb o e n _ _=>⟨o.slots,k b o (nP b n) e⟩,λb o e n _=>?_,λb o e _=>?_,λb xs e=>up _ _ e,λb o u e=>up _ _ e,λb ps e=>⟨#[],by rw[up _ _ e];simp⟩⟩
  ·have lt:=Yj e
   have nf:b≠f:=λz=>by rw[z]at lt;exact absurd (Yu lt hf) (YB _)
   have nc:b≠c:=λz=>by
    rcases hc with hc|hc
    ·rw[z,hc]at n;cases n
    ·rw[z]at lt;exact absurd (Yu lt hc) (YB _)
   rw[Zh nf,Zh nc];exact n
  ·by_cases z:b=P
   ·subst z;exact⟨_,hts⟩
   ·exact⟨o,k b o z e⟩
 refine I.un un λb o e=>?_
 by_cases zf:b=f
 ·subst zf
  rw[Zb]at e;cases e
  exact⟨hfo,_,hfo⟩
 rw[Zh zf]at e
 by_cases zc:b=c
 ·subst zc
  rw[Zb]at e;cases e
  exact⟨hoc,_,hoc⟩
 rw[Zh zc]at e
 by_cases zP:b=P
 ·subst zP
  rw[hP]at e;cases e
  refine⟨ts,hts,h3,λpos cv hcv=>?_⟩
  rcases hcodes pos cv hcv with rfl|⟨c2,oc2,vs2,t2,t2',e1,e2,e3,e4,_⟩
  ·exact⟨c,oc,vs,q,0,tq,rfl,by rw[Zh (Ne.symm hfc),Zb],hd,rfl,hv⟩
  ·exact⟨c2,oc2,vs2,q,0,t2,e1,up _ _ e2,e3,rfl,e4⟩
 ·refine(I.hok b o e).Zhg (λb2 u hb z=>k b2 u ?_ z) (λb2 z=>up _ _ z) (λb2 xs z=>up _ _ z) λb2 o2 u2 z=>up _ _ z
  rcases hb with rfl|hb
  ·exact zP
  ·intro z;rw[z,hP]at hb;cases hb
noncomputable def tLam (env:Env) (P:Addr) (q:Str) (params:Arguments) (body:Expr) (scope:Scope):TE:=λ_ H Q=>H P=some (ZhN q)/\∀f H',H f=none->Zf H H'->ZlD env P q params body scope H' f->Q (.ref f) H'
theorem pe_lam {P:Addr}{q:Str}{params:Arguments}{body:Expr}{scope:Scope}{pos:Pos} (L:LamIn X P q) (hok:compOk X.env.scope scope=true) (hdef:defaultsOf params X.env=([],[]):=by rfl) :
  PE X (.Lambda params body scope pos) (tLam X.env P q params body scope):=by
 intro pins s σ H Q I h
 obtain⟨hP,h⟩:=h
 obtain⟨c0,hc0,hcd⟩:=L.code
 have C:CodeHd s.heap c0 P:=codeHd_of_K I.kIn hcd
 obtain⟨bm,ob,b1,b2,b3,b4,b5,b6,b7⟩:=L.bm
 have hbm:=I.bs bm ob b4
 have bP:bm≠P:=λz=>by rw[z,hP]at hbm;cases hbm.2
 have gP:mainGlobals≠P:=λz=>by
  obtain⟨o,es,ep,e,_⟩:=I.ok.mod.glob
  have:=(I.bs _ _ e).2
  rw[z,hP]at this;cases this
 have hg:s.heap.Ns mainGlobals X.mg:=I.ok.mod.glob.keeps I.bk
 have hb:s.heap.BuiltinsAt X.mg P:=⟨bm,ob,b1,b2,b3,bP,hbm.1,b5,b6,b7⟩
 obtain⟨ts,hts,h3,hco⟩:=I.hok P _ hP
 obtain⟨cl,hcl,up,hfr⟩:=Zlp (env:=X.env) (scope:=scope) λy hy hf=>I.ok.has y.1 ((Zgw hok y hy hf).elim (λz=>.inl z) λz=>.inr z)
 have hco':∀pos cv,codeAmong pos ts.toList=some cv->∃c2 oc vs t t',cv=.ref c2/\H c2=some (.frz oc (.own P))/\oc.data=.fields vs/\vs[1]?=some (.str q t)/\t'=(0:Tok):=λpos cv e=>by
  obtain⟨c,oc,vs,q',t,t',e1,e2,e3,e4,e5⟩:=hco pos cv e
  have e4':some (Value.str q (0:Tok))=some (Value.str q' t):=e4
  cases e4'
  exact⟨c,oc,vs,t',0,e1,e2,e3,e5,rfl⟩
 refine kla_eval hdef ?_
 rw[L.ql]
 cases hca:codeAmong pos ts.toList with
 |some cv =>
  obtain⟨c,oc,vs,tq,t',rfl,e2,e3,e4,_⟩:=hco' pos cv hca
  refine kla_makeFunctionHit (mg:=X.mg) hcl I.ok.glob hg hc0 C hts h3 hca hb λctv h' tk hk hsz=>?_
  have hoc:s.heap.get? c=some oc:=(I.hok c _ e2).1
  have hcP:c≠P:=λz=>by rw[z,hP]at e2;cases e2
  have lt:=Yj hoc
  have kk:∀b o,s.heap.get? b=some o->(h'.push {cls:=.type "function",data:=.func (kla_fn "<lambda>" q params body scope cl ((X.mg "__name__").getD .none) (.ref c) ctv)}).get? b=some o:=λb o e=>Yk _ (hk b o e)
  have J:=I.lam (t':=tk) (f:=h'.objs.size) hP (λb o _ e=>kk b o e) (kk _ _ hts) h3 (.inl e2) hcP (kk _ _ hoc) e3 e4 hsz (λz=>by rw[<-z]at lt;exact absurd (Yu lt hsz) (YB _)) (Yp _ rfl) λp2 cv2 z=>.inr (hco' p2 cv2 z)
  have hfn:H h'.objs.size=none:=I.hok.fresh hsz
  have ne:c≠h'.objs.size:=Yl (Yu lt hsz)
  refine⟨.ref h'.objs.size,_,J,rfl,h _ _ hfn (λb o e=>?_) ⟨c,oc,vs,tq,cl,_,ctv,Zb,by rw[Zh ne,Zb],e3,e4,up,hfr⟩⟩
  rw[Zh (Zo e hfn)]
  by_cases z:b=c
  ·subst z;rw[Zb,<-e,e2]
  ·rw[Zh z];exact e
 |none =>
  refine kla_makeFunction (mg:=X.mg) hcl I.ok.glob hg hc0 C hts h3 hca gP hb λc ctv h' tk hx hge hlt hrec htb=>?_
  obtain⟨c2,oc,vs,tq,e2,hoc,e3,e4⟩:=hrec
  cases e2
  have hsz:s.heap.objs.size<=h'.objs.size:=Yf hge (YH hlt)
  have kk:∀b o,h'.get? b=some o->(h'.push (kla_obj "<lambda>" q params body scope cl ((X.mg "__name__").getD .none) c ctv)).get? b=some o:=λb o e=>Yk _ e
  have hPlt:P<s.heap.objs.size:=I.hok.lt hP
  have hcP:c≠P:=λz=>by rw[z]at hge;exact absurd (Yu hPlt hge) (YB _)
  have tl:(ts++#[rawInt pos.line,rawInt pos.col,Value.ref c]).toList=ts.toList++[rawInt pos.line,rawInt pos.col,Value.ref c]:=by simp
  have J:=I.lam (t':=tk) (f:=h'.objs.size) (ts:=ts++#[rawInt pos.line,rawInt pos.col,.ref c]) hP (λb o nb e=>kk b o (hx b o nb e)) (kk _ _ htb) (by rw[tl];exact TriplesOk_snoc _ _ _ _ h3) (.inr hge) hcP (kk _ _ hoc) e3 e4 hsz (Nat.ne_of_gt hlt) (Yp _ rfl) λp2 cv2 z=>by
   rw[tl]at z
   rcases ZlE ts.toList h3 z with y|y
   ·exact .inr (hco' p2 cv2 y)
   ·exact .inl y
  have hfn:H h'.objs.size=none:=I.hok.fresh hsz
  have hcn:H c=none:=I.hok.fresh hge
  refine⟨.ref h'.objs.size,_,J,rfl,h _ _ hfn (λb o e=>?_) ⟨c,oc,vs,tq,cl,_,ctv,Zb,by rw[Zh (Yl hlt),Zb],e3,e4,up,hfr⟩⟩
  rw[Zh (Zo e hfn),Zh (Zo e hcn)];exact e
end
noncomputable def ZkD (X:Cx) (A':Around) (Nc:List Str) (q:Str) (scope:Scope) (cl:List (Str×Addr)) (L f c:Addr) (s:Shared) (H:Hp):Cx where
 prog:=X.prog
 w:=X.w
 K:=X.K
 mg:=X.mg
 base:=X.base
 A:=A'.deeper (envX q scope L f (.ref c) cl)
 N:=Nc
 s₀:=s
 H₀:=H
 env:=envX q scope L f (.ref c) cl
 outer:=X.stack
 stack:=envX q scope L f (.ref c) cl::X.stack
 ex:=[]
 fn:=λ_=>false
 calm:=X.calm
 pn:=[]
 xe:=λ_ _=>False
section
variable {X:Cx}
theorem Znn {pins:List (Addr×Obj)}{σ:St}{H:Hp}{s:Shared}{A':Around}{Nc:List Str}{js:List (Option Nat)}{q pn:Str}{scope:Scope}{cl:List (Str×Addr)}{h1:Heap}{tk:Nat}{f c:Addr}{v:V}{u:Value}
  (I:Inv X pins σ H s) (hA:A'.frames=some X.stack) (hh:X.calm=true->A'.handled=none) (hok:compOk X.env.scope scope=true) (htk:takesC X.N Nc scope js 0=true) (hp0:Nc[0]?=some pn) (hj0:js[0]?=some none) (hpl:scope.names.lookup pn=some .local)
  (up:∀x c,cl.lookup x=some c->X.env.cells.lookup x=some c) (hfr:∀y∈scope.names,y.2=.free->∃c,cl.lookup y.1=some c/\X.env.cells.lookup y.1=some c)
  (r:RelV v u) (old:∀b o,s.heap.get? b=some o->h1.get? b=some o) (hns:h1.Ns s.heap.objs.size λy=>[(pn,u)].reverse.lookup y) :
  Inv (ZkD X A' Nc q scope cl s.heap.objs.size f c s H) [] ((iniC js σ).set 0 (some v)) H {s with heap:=h1,toks:=tk}:=by
 have noA:∀b:Addr,b∉(ZkD X A' Nc q scope cl s.heap.objs.size f c s H).ex:=λb z=>absurd (show b∈([]:List Addr)from z) (by simp)
 have kf:∀x,((envX q scope s.heap.objs.size f (.ref c) cl).kindOf x=some .cell\/(envX q scope s.heap.objs.size f (.ref c) cl).kindOf x=some .free)->∃c,cl.lookup x=some c:=λx hx=>by
  rcases hx with z|z
  ·exact absurd rfl (Zgv hok _ (lookup_mem (show scope.names.lookup x=some .cell from z)))
  ·obtain⟨c,q,_⟩:=hfr _ (lookup_mem (show scope.names.lookup x=some .free from z)) rfl
   exact⟨c,q⟩
 refine⟨⟨I.ok.mod,Zgu hok,rfl,rfl,Yd _,λx y c e1 e2=>I.ok.inj x y c (up _ _ e1) (up _ _ e2),λx hx=>kf x hx,(λx c e=>nomatch e),hh,Around.frames_deeper hA,.inr ⟨rfl,rfl⟩,λb z=>absurd z (noA b),I.bs,Yf I.ok.bsz I.sz,λb _ _=>noA b,λb z=>absurd z (noA b),I.stack,I.Zg8⟩,
  rfl,I.bare,Un.kept old,⟨_,hns,λi x v' e1 e2 e3=>?_⟩,λx c e=>?_,I.hok.fresh (Yd _),λx c e=>I.freeC x c (up _ _ e),λp hp=>absurd (show p∈([]:List (Addr×Obj))from hp) (by simp),I.hok.kept old,?_⟩
 ·by_cases hi:i=0
  ·subst hi
   have ex:x=pn:=Yy ((show Nc[0]?=some x from e1).symm.trans hp0)
   subst ex
   have hl:0<(iniC js σ).length:=by
    unfold iniC
    rw[Yi]
    exact(Yr.mp hj0).1
   rw[List.getElem?_set_self hl]at e2
   cases e2
   exact⟨u,r,.inl ⟨hpl,by simp⟩⟩
  ·rw[List.getElem?_set_ne (Ne.symm hi)]at e2
   have e2':(iniC js σ)[i]?=some (some v'):=e2
   unfold iniC at e2'
   rw[YE]at e2'
   cases hq:js[i]? with
   |none=>rw[hq]at e2';cases e2'
   |some j0 =>
    cases j0 with
    |none=>rw[hq]at e2';cases e2'
    |some j =>
     rw[hq]at e2'
     simp only[Option.map_some,Option.some.injEq]at e2'
     have e4:σ[j]?=some (some v'):=by
      cases z:σ[j]? with
      |none=>rw[z]at e2';cases e2'
      |some o=>rw[z]at e2';simp only[Option.join_some]at e2';rw[e2']
     obtain⟨y,y1,y2,y3⟩:=Zes htk hq
     rw[Nat.zero_add]at y1
     have:x=y:=Yy ((show Nc[i]?=some x from e1).symm.trans y1)
     subst this
     have hm:=lookup_mem y3
     obtain⟨c1,h1',h2'⟩:=hfr _ hm rfl
     have hk:=Zgw hok _ hm rfl
     obtain⟨m0,hn0,hl0⟩:=I.loc
     obtain⟨u',r',l⟩:=hl0 j x v' y2 e4 (hk.elim (λz=>.inr (.inl z)) λz=>.inr (.inr z))
     refine⟨u',r',.inr ⟨.inr y3,c1,h1',?_⟩⟩
     rcases l with⟨lk,_⟩|⟨_,c',c3,c4⟩
     ·rcases hk with z|z
      ·rw[show X.env.kindOf x=some .cell from z]at lk;cases lk
      ·rw[show X.env.kindOf x=some .free from z]at lk;cases lk
     ·rw[h2']at c3;cases c3
      obtain⟨oc,w1,w2⟩:=c4
      exact⟨oc,old _ _ w1,w2⟩
 ·obtain⟨v,oc,w1,w2⟩:=I.cell x c (up _ _ e)
  exact⟨v,oc,old _ _ w1,w2⟩
 ·show((iniC js σ).set 0 (some v)).length=Nc.length
  unfold iniC
  have:=ZcN htk
  rw[List.length_set,Yi]
  omega
structure LamSc (X:Cx) (Nc:List Str) (js:List (Option Nat)) (params:Arguments) (body:Expr) (scope:Scope) (pn:Str):Prop where
 ok:compOk X.env.scope scope=true
 tk:takesC X.N Nc scope js 0=true
 p0:Nc[0]?=some pn
 j0:js[0]?=some none
 pl:scope.names.lookup pn=some .local
 co:scope.isCoroutine=false
 gen:scope.isGenerator=false
 bd:∀(q:Str) (cl:List (Str×Addr)) (pm cd ctv u:Value),bindArgs (kla_fn "<lambda>" q params body scope cl pm cd ctv) ⟨[u],[]⟩=pure [(pn,u)]
theorem ZoJ {pins:List (Addr×Obj)}{σ:St}{H:Hp}{s:Shared}{A':Around}{Nc:List Str}{js:List (Option Nat)}{q pn:Str}{params:Arguments}{body:Expr}{scope:Scope}{P f:Addr}{v:V}{u:Value}{tb:TE}{Q:VK}{E:Value->Shared->Prop}
  (S:LamSc X Nc js params body scope pn) (hbody:∀cl L f c s H,PE (ZkD X A' Nc q scope cl L f c s H) body tb) (I:Inv X pins σ H s) (hA:A'.frames=some X.stack) (hh:X.calm=true->A'.handled=none) (hroom:A'.depth<recursionLimit) (L:ZlD X.env P q params body scope H f)
  (r:RelV v u) (h:tb ((iniC js σ).set 0 (some v)) H Q):wpAny (model X.prog X.w) A' (call (.ref f) [u]) (EP X pins σ Q) E s:=by
 obtain⟨c,oc,vs,t,cl,pm,ctv,e1,e2,e3,e4,up,hfr⟩:=L
 have hfo:=(I.hok f _ e1).1
 have hoc:=(I.hok c _ e2).1
 refine wpAny_call (codeAny_mono (R:=λr s'=>∃u',r=.ok (.ret u')/\EP X pins σ Q u' s') (kla_callFunE hroom hfo rfl S.co S.gen rfl ⟨c,oc,vs,t,rfl,hoc,e3,e4⟩ ?_) λr s' ⟨u',hr,z⟩=>by subst hr;exact z)
 show wpAny _ _ (bindArgs (kla_fn "<lambda>" q params body scope cl pm (.ref c) ctv) ⟨[u],[]⟩) _ _ _
 rw[S.bd]
 refine Ye (wpAny_newFunctionEnv (λx hx=>Zgv S.ok x hx) (λx hx=>?_) (λh₁ hns hsb=>⟨I.nolimit.fresh _ hsb,?_⟩) (Zgu S.ok))
 ·have:x=(pn,u):=by simpa using hx
  subst this;exact S.pl
 show codeAny _ _ (.expr body (envX q scope s.heap.objs.size f (.ref c) cl)) _ _
 have old:∀b o,s.heap.get? b=some o->h₁.get? b=some o:=λb o e=>hsb.extBut b o (Yl (Yj e)) (Yk _ e)
 have J:=Znn (q:=q) (f:=f) (c:=c) (tk:=s.toks+[(pn,u)].length) I hA hh S.ok S.tk S.p0 S.j0 S.pl up hfr r old hns
 refine kla_codeExpr (YI (hbody cl _ f c s H [] _ _ H Q J h) (λv' s' ⟨x,H',J',r',q'⟩=>⟨v',rfl,x,H',?_,r',q'⟩) λ_ _ z=>z.elim)
 exact I.call' (ch:=[]) J'.os J'.base J'.hok J'.bare λb z=>absurd z (by simp)
end
section
variable {prog:Program}{w:World}{A:Around}{E:Value->Shared->Prop}{s:Shared}
noncomputable def ZoK (b:Bool) (st:SortSt):Array Value:=if b then ((arrOf st).map (·.2)).reverse else (arrOf st).map (·.2)
noncomputable def ZlF (h:Heap) (kS a:Addr) (out:Array Value):Heap:=(h.update kS (Obj.mapSeq λ_=>(#[]:Array Value))).update a (Obj.mapSeq λ_=>out)
theorem ZqD {a kS:Addr}{b:Bool}{e e1:Nat}{keys:Array Value}{st:SortSt}{R:PySem.Fin->Shared->Prop} (ok:s.heap.get? kS=some (seqObj "list" keys e)) (oa:s.heap.get? a=some (seqObj "list" #[] e1)) (ne:a≠kS) (z1:keys.size<=1000) (z2:(arrOf st).size<=1000) (hf:failedOf st=none)
  (h:R (.done (.ret .none)) {s with heap:=ZlF s.heap kS a (ZoK b st)}):wpAny (model prog w) A (ksk_tail a b e1 (.ref kS) st) R E s:=by
 have oa1:(s.heap.update kS (Obj.mapSeq λ_=>(#[]:Array Value))).get? a=some (seqObj "list" #[] e1):=(Heap.get?_update_ne _ _ _ _ ne).trans oa
 have zo:(ZoK b st).size<=sizeLine+1:=by
  unfold ZoK
  cases b
  ·rw[Yb Yw,Array.size_map];exact Nat.le_succ_of_le (Yf z2 (by decide))
  ·rw[Yc rfl,Array.size_reverse,Array.size_map];exact Nat.le_succ_of_le (Yf z2 (by decide))
 unfold ksk_tail
 dsimp only
 refine Ya (listUpdate_at ok rfl (Ya (wpAny_letGo (Ya (seqEpoch_at oa1 rfl (Ya (listUpdate_at oa1 rfl ?_ (Ym _) zo)))))) (Yf z1 (by decide)) (Ym _))
 rw[hf]
 simp only[bne_self_eq_false,Bool.false_eq_true,if_false]
 exact Ye h
theorem sk_end {a kS:Addr}{b:Bool}{e e1:Nat}{keys:Array Value}{vs:List Value}{kz:List Int}{R:PySem.Fin->Shared->Prop} (ok:s.heap.get? kS=some (seqObj "list" keys e)) (oa:s.heap.get? a=some (seqObj "list" #[] e1)) (ne:a≠kS) (hk:IntsAre keys.toList kz) (hl:kz.length=vs.length) (h64:vs.length<64)
  (h:∀out:Array Value,KskOut b kz vs out.toList->R (.done (.ret .none)) {s with heap:=ZlF s.heap kS a out}):wpAny (model prog w) A (ksk_end a b vs.toArray e1 (.ref kS) keys) R E s:=by
 have hz:keys.size=vs.length:=by
  have q:=hk.length
  rw[YO]at q;omega
 have hzz:(keys.zip vs.toArray).size=vs.length:=by rw[Array.size_zip,hz,Yt,Nat.min_self]
 have go:∀t:Sem PySem.Fin,wpAny (model prog w) A t R E s->wpAny (model prog w) A (if b=true then (rule "list.sort.reverse" >>= λ_=>t)else t) R E s:=λt ht=>by
  cases b
  ·exact ht
  ·exact Ya (wpAny_rule ht)
 have hst:(if b=true then (keys.zip vs.toArray).reverse else keys.zip vs.toArray).Perm (keys.zip vs.toArray):=by
  cases b
  ·exact .refl _
  ·exact Array.perm_iff_toList_perm.mpr (by rw[Yc rfl,Array.toList_reverse];exact List.reverse_perm _)
 have done:∀st:SortSt,(arrOf st).Perm (keys.zip vs.toArray)->failedOf st=none->SortedTo (arrOf st) (arrOf st).size->wpAny (model prog w) A (ksk_tail a b e1 (.ref kS) st) R E s:=λst q1 q2 q3 =>
  ZqD ok oa ne (by omega) (by rw[q1.size_eq,hzz];omega) q2 (h _ (ksk_out hk q1 q3))
 unfold ksk_end
 refine go _ ?_
 by_cases h2:vs.length<2
 ·have h2':vs.toArray.size<2:=by rw[Yt];exact h2
  rw[Yc h2',Yc h2']
  refine Ya (Ye ?_)
  dsimp only
  rw[StateT.run_pure]
  refine Ya (Ye (done (SortSt.mk' general' (if b=true then (keys.zip vs.toArray).reverse else keys.zip vs.toArray) #[] 7 none) hst rfl λi j hij hj=>?_))
  have hj':j<(if b=true then (keys.zip vs.toArray).reverse else keys.zip vs.toArray).size:=hj
  rw[hst.size_eq,hzz]at hj'
  rw[show i=j by omega]
  exact Int.le_refl _
 ·have h2':¬ vs.toArray.size<2:=by rw[Yt];exact h2
  rw[Yb h2',Yb h2',ksk_kind hk (by omega)]
  refine Ya (Ye (Ya (YI (wpS_sortRuns (a₀:=keys.zip vs.toArray) (st:=SortSt.mk' oneType' (if b=true then (keys.zip vs.toArray).reverse else keys.zip vs.toArray) #[] 7 none)
   (Q:=λ_ st=>(arrOf st).Perm (keys.zip vs.toArray)/\failedOf st=none/\SortedTo (arrOf st) (keys.zip vs.toArray).size) (ksk_intKeys hk) ⟨hst,rfl,rfl,rfl⟩ (by omega) (by omega) λst q1 q2 q3=>⟨q1,q2,q3⟩) ?_ λ_ _ z=>z)))
  rintro⟨⟨⟩,st⟩ s' ⟨rfl,q1,q2,q3⟩
  exact done st q1 q2 (by rw[q1.size_eq];exact q3)
end
section
variable {X:Cx}
theorem Inv.track {pins:List (Addr×Obj)}{σ:St}{H:Hp}{s:Shared}{a:Addr}{o:HO} (I:Inv X pins σ H s) (hn:H a=none) (hL:a≠X.env.locals) (h1:a∈X.ex\/X.s₀.heap.objs.size<=a) (h2:∀x c,X.env.cells.lookup x=some c->c≠a) (h3:∀p∈X.pn++pins,p.1≠a)
  (new:ZW X.prog X.w (upd H a o) s.heap a o):Inv X pins σ (upd H a o) s:=by
 have up:∀b u,H b=some u->upd H a o b=some u:=λb u e=>by rw[Zh (Zo e hn)];exact e
 have J:=I.step (g':=s.gens) (d':=s.drawn) (t':=s.toks) (h':=s.heap) (H':=upd H a o) (ch:=[a]) (λb hb=>?_) (λb o _ _ _ e _=>e) (λb o _ _ _ e _=>⟨o.slots,e⟩) (λb o hb e n=>?_) (λb o _ e=>⟨o,e⟩) (λb xs e=>up _ _ e) (λb o u e=>up _ _ e) (λb ps e=>⟨#[],by rw[up _ _ e];simp⟩) (λm hm=>hm) (λb u e=>?_) I.bare
 ·exact J
 ·have e:b=a:=by simpa using hb
  subst e
  exact⟨h1,hL,h2,h3⟩
 ·rw[Zh (λz=>hb (by simp[z]))];exact n
 ·by_cases z:b=a
  ·subst z;rw[Zb]at e;cases e;exact new
  ·rw[Zh z]at e
   exact(I.hok b u e).Zhg (λc v _ q=>q) (λc q=>up _ _ q) (λc xs q=>up _ _ q) λc o' u' q=>up _ _ q
theorem ZqE {pins:List (Addr×Obj)}{σ:St}{H:Hp}{s:Shared}{A':Around}{E:Value->Shared->Prop}{f:Value}{b:Bool}{a kS:Addr}{e1:Nat}{vs:List Value}{ns:List Int}{kz:Int->Int}{R:PySem.Fin->Shared->Prop}
  (I:Inv X ((kS,seqObj "list" #[] 0)::(a,seqObj "list" #[] e1)::pins) σ H s) (hk0:X.s₀.heap.objs.size<=kS) (ha0:X.s₀.heap.objs.size<=a) (ne:a≠kS) (hp:∀p∈X.pn++pins,p.1≠kS/\p.1≠a) (hv:IntsAre vs ns) (h64:vs.length<64)
  (turn:∀(H':Hp) (s':Shared) (pins':List (Addr×Obj)) (n:Int) (u:Value),n∈ns->Inv X pins' σ H' s'->Zf H H'->RelV (.int n) u->wpAny (model X.prog X.w) A' (call f [u]) (EP X pins' σ λv H2=>v=.int (kz n)/\Zf H' H2) (λ_ _=>False) s')
  (fin:∀(H':Hp) (s':Shared) (out:Array Value) (c:Nat),Inv X pins σ H' s'->Zf H H'->H' a=none->s'.heap.get? a=some (seqObj "list" out c)->KskOut b (ns.map kz) vs out.toList->R (.done (.ret .none)) s') :
  wpAny (model X.prog X.w) A' (ksk_rest a f b vs.toArray e1 (.ref kS)) R E s:=by
 have hlen:vs.length=ns.length:=hv.length
 have facts:∀{H':Hp}{s':Shared}{ps:List (Addr×Obj)}{x:Addr}{xs:Array Value}{c:Nat},Inv X ps σ H' s'->(x,seqObj "list" xs c)∈ps->s'.heap.get? x=some (seqObj "list" xs c)/\H' x=none/\x≠X.env.locals/\x∉X.fs/\∀y cc,X.env.cells.lookup y=some cc->cc≠x:=λ{H' s' ps x xs c} J hm=>by
  obtain⟨q1,q2,q3,q4,_⟩:=J.pin _ (Yq _ hm)
  refine⟨q1,q2,q3,q4,λy cc hc z=>?_⟩
  obtain⟨v,oc,w1,w2⟩:=J.cell y cc hc
  rw[z,q1]at w1;cases w1;cases w2
 unfold ksk_rest
 refine Ya (wpAny_rule ?_)
 first
  |rw[List.forIn_toArray]
  |(rw[<-Array.forIn_toList];simp only[List.toList_toArray])
 refine Ya (ksk_fold (λi s'=>∃H' kA e,Inv X ((kS,seqObj "list" kA e)::(a,seqObj "list" #[] e1)::pins) σ H' s'/\Zf H H'/\IntsAre kA.toList ((ns.take i).map kz)) vs 0 s ⟨H,#[],0,I,Zf.refl H,by simpa using IntsAre.nil⟩ ?step ?done)
 case step =>
  rintro j x s' hx ⟨H',kA,e,J,sm,hk⟩
  simp only[Nat.zero_add]at hk⊢
  have hj:j<vs.length:=(Yr.mp hx).1
  have hnj:ns[j]?=some ns[j]:=Yh (by omega)
  obtain⟨t,ht⟩:=hv.get j _ hnj
  rw[hx]at ht
  cases ht
  have hz:kA.size<=64:=by
   have h1:=hk.length
   rw[YO,Yi,YX]at h1
   omega
  refine Ya (wpAny_attempt (YI (turn H' s' _ ns[j] _ (YF _) J sm ⟨t,rfl⟩) (λv s'' he=>?_) λ_ _ hF=>hF.elim))
  obtain⟨x2,H2,J2,r2,rfl,sm2⟩:=he
  obtain⟨t2,rfl⟩:=r2
  obtain⟨o1,n1,l1,_,c1⟩:=facts J2 (YQ ..)
  try dsimp only
  obtain⟨c2,hc2⟩:∃c2,(s''.heap.update kS (Obj.mapSeq (·.push (.int (kz ns[j]) t2)))).get? kS=some (seqObj "list" (kA.push (.int (kz ns[j]) t2)) c2):=⟨_,get?_update_seq o1 (·.push (.int (kz ns[j]) t2))⟩
  refine Ya (listUpdate_at o1 rfl ?_ (Yf hz (by decide)) (Yf (Y5 (Array.size_push ..)) (Nat.le_succ_of_le (Yf (Nat.succ_le_succ hz) (by decide)))))
  have J3:Inv X ((a,seqObj "list" #[] e1)::pins) σ H2 s'':=J2.Za1 λp hp'=>by
   obtain⟨q1,q2,q3,q4,q5⟩:=J2.pin p (Yq _ (YK _ hp'))
   exact⟨q1,q2,q3,q4,q5⟩
  have J4:=J3.turned (t':=s''.toks) (h':=s''.heap.update kS (Obj.mapSeq (·.push (.int (kz ns[j]) t2)))) (it:=kS) (λb o nb e=>(Heap.get?_update_ne _ _ _ _ nb).trans e) n1 l1 (.inr hk0) c1 (λp hp'=>by
   rcases Yz.mp hp' with z|z
   ·exact(hp p (YN _ z)).1
   ·rcases Yo.mp z with rfl|z
    ·exact ne
    ·exact(hp p (Yq _ z)).1)
  have o1f:=(facts J2 (YQ ..)).2.2.2.1
  have J5:Inv X ((kS,seqObj "list" (kA.push (.int (kz ns[j]) t2)) c2)::(a,seqObj "list" #[] e1)::pins) σ H2 {s'' with heap:=s''.heap.update kS (Obj.mapSeq (·.push (.int (kz ns[j]) t2)))}:=J4.Za1 λp hp'=>by
   rcases Yo.mp hp' with rfl|hp'
   ·exact⟨hc2,n1,l1,o1f,λv z=>by cases z⟩
   ·exact J4.pin p (Yq _ hp')
  refine Ye ⟨rfl,H2,_,_,J5,sm.trans sm2,?_⟩
  have ek:(ns.take (j+1)).map kz=(ns.take j).map kz++[kz ns[j]]:=by rw[Y9,hnj,YM];rfl
  have ea:(kA.push (Value.int (kz ns[j]) t2)).toList=kA.toList++[Value.int (kz ns[j]) t2]:=by simp
  rw[ea,ek];exact ksk_snoc hk
 case done =>
  rintro s' ⟨H',kA,e,J,sm,hk⟩
  have hk':IntsAre kA.toList (ns.map kz):=by
   rw[List.take_of_length_le (by omega)]at hk
   exact hk
  obtain⟨o1,n1,l1,f1,c1⟩:=facts J (YQ ..)
  obtain⟨o2,n2,l2,f2,c2⟩:=facts J (YK _ (YQ ..))
  refine Ya (listItems_at o1 rfl ?_)
  refine sk_end o1 o2 ne hk' (by rw[Yi];exact hlen.symm) h64 λout ho=>?_
  have J3:Inv X pins σ H' s':=J.Za1 λp hp'=>J.pin p (Yq _ (YK _ (YK _ hp')))
  have J4:=J3.turned (t':=s'.toks) (h':=s'.heap.update kS (Obj.mapSeq λ_=>(#[]:Array Value))) (it:=kS) (λb o nb e=>(Heap.get?_update_ne _ _ _ _ nb).trans e) n1 l1 (.inr hk0) c1 λp hp'=>(hp p hp').1
  have J5:=J4.turned (t':=s'.toks) (h':=ZlF s'.heap kS a out) (it:=a) (λb o nb e=>(Heap.get?_update_ne _ _ _ _ nb).trans e) n2 l2 (.inr ha0) c2 λp hp'=>(hp p hp').2
  have o3:(s'.heap.update kS (Obj.mapSeq λ_=>(#[]:Array Value))).get? a=some (seqObj "list" #[] e1):=(Heap.get?_update_ne _ _ _ _ ne).trans o2
  exact fin H' _ out _ J5 sm n2 (get?_update_seq o3 λ_=>out) ho
theorem ZqF {pins:List (Addr×Obj)}{σ:St}{H:Hp}{s:Shared}{A':Around}{E:Value->Shared->Prop}{f:Value}{b:Bool}{a:Addr}{e0:Nat}{vs:List Value}{ns:List Int}{kz:Int->Int}{R:PySem.Fin->Shared->Prop}
  (I:Inv X ((a,seqObj "list" vs.toArray e0)::pins) σ H s) (ha0:X.s₀.heap.objs.size<=a) (hp:∀p∈X.pn++pins,p.1≠a) (hv:IntsAre vs ns) (h64:vs.length<64)
  (turn:∀(H':Hp) (s':Shared) (pins':List (Addr×Obj)) (n:Int) (u:Value),n∈ns->Inv X pins' σ H' s'->Zf H H'->RelV (.int n) u->wpAny (model X.prog X.w) A' (call f [u]) (EP X pins' σ λv H2=>v=.int (kz n)/\Zf H' H2) (λ_ _=>False) s')
  (fin:∀(H':Hp) (s':Shared) (out:Array Value) (c:Nat),Inv X pins σ H' s'->Zf H H'->H' a=none->s'.heap.get? a=some (seqObj "list" out c)->KskOut b (ns.map kz) vs out.toList->R (.done (.ret .none)) s') :
  wpAny (model X.prog X.w) A' (ksk_tree a f b) R E s:=by
 obtain⟨oa,na,la,fa,da⟩:=I.pin _ (Yq _ (YQ ..))
 have ca:∀y cc,X.env.cells.lookup y=some cc->cc≠a:=λy cc hc z=>by
  obtain⟨v,oc,w1,w2⟩:=I.cell y cc hc
  rw[z,oa]at w1;cases w1;cases w2
 have lt:=Yj oa
 obtain⟨e1,oa1⟩:∃e1,(s.heap.update a (Obj.mapSeq λ_=>(#[]:Array Value))).get? a=some (seqObj "list" #[] e1):=⟨_,get?_update_seq oa λ_=>#[]⟩
 have I0:Inv X pins σ H s:=I.Za1 λp hp'=>I.pin p (Yq _ (YK _ hp'))
 have I1:=I0.turned (t':=s.toks) (h':=s.heap.update a (Obj.mapSeq λ_=>(#[]:Array Value))) (it:=a) (λb o nb e=>(Heap.get?_update_ne _ _ _ _ nb).trans e) na la (.inr ha0) ca hp
 have sz:(s.heap.update a (Obj.mapSeq λ_=>(#[]:Array Value))).objs.size=s.heap.objs.size:=Heap.size_update ..
 have I2:=I1.kept (h':=((s.heap.update a (Obj.mapSeq λ_=>(#[]:Array Value))).push (seqObj "tuple" vs.toArray 0)).push (seqObj "list" #[] 0)) (t':=s.toks) λb o e=>Yk _ (Yk _ e)
 have sz2:((s.heap.update a (Obj.mapSeq λ_=>(#[]:Array Value))).push (seqObj "tuple" vs.toArray 0)).objs.size=s.heap.objs.size+1:=(size_push' ..).trans (congrArg (·+1) sz)
 have hge:X.s₀.heap.objs.size<=s.heap.objs.size:=I.sz
 have hkL:X.env.locals<s.heap.objs.size:=I.lt
 have nk:H (s.heap.objs.size+1)=none:=I.hok.fresh (YW _)
 unfold ksk_tree
 refine Ya (listItems_at oa rfl (Ya (listUpdate_at oa rfl (Ya (seqEpoch_at oa1 rfl (Ya (wpAny_newTuple (Ya (wpAny_newList (wpAny_holding ?_) (Ym _))) ?_)))) ?_ (Ym _))))
 ·rw[sz2]
  refine ZqE (kS:=s.heap.objs.size+1) (e1:=e1) (I2.Za1 λp hp'=>?_) (Nat.le_succ_of_le hge) ha0 (Yl (YL lt)) (λp hp'=>⟨?_,hp p hp'⟩) hv h64 turn fin
  ·rcases Yo.mp hp' with rfl|hp'
   ·exact⟨by rw[<-sz2];exact Yp _ rfl,nk,Nat.ne_of_gt (YL hkL),I.nofs (YW _),λv z=>by cases z⟩
   ·rcases Yo.mp hp' with rfl|hp'
    ·exact⟨Yk _ (Yk _ oa1),na,la,fa,λv z=>by cases z⟩
    ·exact I2.pin p (Yq _ hp')
  ·have:=Yj (I0.pin p hp').1
   exact Yl (YL this)
 ·exact Yf (show vs.length<=64 by omega) (by decide)
 ·rw[Yt];exact Yf (show vs.length<=64 by omega) (by decide)
end
theorem ZoL {prog:Program}{w:World}{A:Around}{R:Result->Shared->Prop}{s:Shared}{r S:Addr}{a b c:Int}{t u v:Tok}{n c₀:Nat} (hh:A.handled=none) (hr:IsRange s.heap r a b c t u v) (hsmall:Builtin.Range.small a b c=true)
  (hn:Builtin.Range.rangeSize a b c=n) (hlen:n<=2 ^ 24) (hS:s.heap.get? S=some {cls:=.type "list",data:=.seq #[] c₀})
  (hR:∀h' tk acc' c',(∀b o,b≠S->s.heap.get? b=some o->h'.get? b=some o)->h'.get? S=some {cls:=.type "list",dict:=none,data:=.seq acc' c',slots:=#[]}->ItemsOf (λi v=>∃t,v=.int (a+i*c) t) acc' n->R (.ok (.ret (.ref S))) {s with heap:=h',toks:=tk}) :
  codeAny (model prog w) A (.builtin "list.__iadd__" ⟨[.ref S,.ref r],[]⟩) R s :=
 codeAny_builtin entry_list_iadd' (wpAny_extend_range hh hr hsmall hn hlen S (.ref S) c₀ hS hR)
theorem ZkE {prog:Program}{w:World}{A:Around}{E:Value->Shared->Prop}{s:Shared}{r:Addr}{a b c:Int}{t u v:Tok}{n:Nat}{Q:List Value->Shared->Prop} (hh:A.handled=none) (hr:IsRange s.heap r a b c t u v) (hsmall:Builtin.Range.small a b c=true)
  (hn:Builtin.Range.rangeSize a b c=n) (hlen:n<=2 ^ 24) (h:∀(h':Heap) (tk:Nat) (acc:Array Value),(∀b o,s.heap.get? b=some o->h'.get? b=some o)->ItemsOf (λi v=>∃t,v=.int (a+i*c) t) acc n->Q acc.toList {s with heap:=h',toks:=tk}) :
  wpAny (model prog w) A (collect (.ref r)) Q E s:=by
 unfold collect
 refine Ya (wpAny_runValue (codeAny_builtin entry_proto_collect' ?_))
 show wpAny _ _ (newList [] >>= λl=>again (.builtin "list.__iadd__" ⟨[l,.ref r],[]⟩)) _ _ s
 refine Ya (wpAny_newList (Ye ⟨Code.quiet_builtin _ (by decide +kernel),?_⟩))
 refine ZoL (s:={s with heap:=s.heap.push (seqObj "list" #[] 0)}) hh (Yk _ hr) hsmall hn hlen (Yp _ rfl) λh' tk acc c' hk hS hacc=>?_
 refine Ya (wpAny_load hS (Ye (h h' tk acc (λb o e=>hk b o (Yl (Yj e)) (Yk _ e)) hacc)))
theorem ZkF (g:Int->Int):∀vs:List Value,((vs.map numOf).map g).zip vs=vs.map λv=>(g (numOf v),v)
 |[]=>rfl
 |v::vs=>by
  simp only[YA,List.zip_cons_cons]
  rw[ZkF g vs]
theorem ZlG {b:Bool}{g:Int->Int}{vs out:List Value}{ns:List Int} (hv:IntsAre vs ns) (h:KskOut b (ns.map g) vs out):∃ns',IntsAre out ns'/\ns'.Perm ns/\ns'.Pairwise λx y=>if b then g y<=g x else g x<=g y:=by
 obtain⟨ps,hp,rfl,hs⟩:=h
 have en:ns=vs.map numOf:=hv.nums.symm
 rw[en,ZkF]at hp
 have mem:∀p∈ps,p.1=g (numOf p.2)/\p.2∈vs:=λp hp'=>by
  obtain⟨v,hv',rfl⟩:=YG.mp (hp.mem_iff.mp hp')
  exact⟨rfl,hv'⟩
 refine⟨(ps.map Prod.snd).map numOf,intsAre_map _ λv hv'=>?_,?_,?_⟩
 ·obtain⟨p,hp',rfl⟩:=YG.mp hv'
  exact hv.all _ (mem p hp').2
 ·have:=(hp.map Prod.snd).map numOf
  rw[YU (l:=vs),show(Prod.snd ∘ λv=>(g (numOf v),v))=(id:Value->Value)from rfl,List.map_id]at this
  rw[en];exact this
 ·rw[List.pairwise_map,List.pairwise_map]
  refine hs.imp_of_mem λ{p q} hp' hq' hr=>?_
  rw[<-(mem p hp').1,<-(mem q hq').1]
  exact hr
noncomputable def nats (n:Int):List Int:=(List.range n.toNat).map λ(i:Nat)=>(i:Int)
section
variable {X:Cx}
theorem ZlH {pins:List (Addr×Obj)}{σ:St}{H:Hp}{s:Shared}{kw:List (Str×Value)}{f:Value}{b:Bool}{p:Addr}{n:Int}{kz:Int->Int}{Q:VK} (I:Inv X pins σ H s) (hc:X.calm=true) (hp:H p=some (.rng 0 n)) (h0:0<=n) (h64:n<64)
  (ha1:argsOk "sorted" ⟨[.ref p],kw⟩) (ha2:∀x,argsOk "list.sort" ⟨[.ref x],kw⟩) (ht:∀x,Builtin.«list.sort» ⟨[.ref x],kw⟩=ksk_tree x f b)
  (turn:∀(H':Hp) (s':Shared) (pins':List (Addr×Obj)) (i:Int) (u:Value),0<=i->i<n->Inv X pins' σ H' s'->Zf H H'->RelV (.int i) u->wpAny (model X.prog X.w) X.A.in1.in1 (call f [u]) (EP X pins' σ λv H2=>v=.int (kz i)/\Zf H' H2) (λ_ _=>False) s')
  (fin:∀(ns:List Int) (l:Addr) (H':Hp),ns.Perm (nats n)->(ns.Pairwise λx y=>if b then kz y<=kz x else kz x<=kz y)->Zf H H'->H l=none->H' l=some (.lst (ns.map V.int))->Q (.ref l) H') :
  wpAny (model X.prog X.w) X.A (call (.builtin "sorted") [.ref p] kw) (EP X pins σ Q) X.xe s:=by
 obtain⟨t,u,v,hob⟩:=(show ∃t u v,s.heap.get? p=some {cls:=.type "range",data:=.fields #[.int 0 t,.int n u,.int 1 v]}from I.hok p _ hp)
 refine call_function_entry_kw kind_sorted plain_sorted entry_sorted ha1 ?_
 unfold Builtin.«sorted»
 refine Ya (m:=checkCount "sorted" 1 1 _) (Ye (Ya (ZkE (n:=n.toNat) (I.ok.hd hc) hob (small_one (by omega) (by omega) (by omega) (by omega)) (by rw[rangeSize_one];split<;>omega) (by omega) λh1 tk acc k1 hacc=>Ya (wpAny_newList ?_ ?_))))
 case refine_2=>rw[YO,hacc.1];exact Yf (show n.toNat<=1000 by omega) (by decide)
 have hia:IntsAre acc.toList (nats n):=by
  have hv:Vals ((nats n).map V.int) acc.toList:=by
   unfold nats
   rw[YU]
   exact Zqs (g:=λ(i:Nat)=>V.int (i:Int)) (P:=λ(i:Nat) v=>∃t,v=.int (0+(i:Int)*1) t) (λi v h=>by obtain⟨t,e⟩:=h;exact⟨t,by rw[e];simp⟩) _ _ (by rw[YO];exact hacc.1) λk v hk=>hacc.2 k v (by simpa using hk)
  exact intsAre_of hv
 have I1:=I.kept (t':=tk) k1
 show wpAny _ _ _ _ _ {s with heap:=h1.push (seqObj "list" acc.toList.toArray 0),toks:=tk}
 have oa:(h1.push (seqObj "list" acc.toList.toArray 0)).get? h1.objs.size=some (seqObj "list" acc.toList.toArray 0):=Yp _ rfl
 have I2:=I1.kept (h':=h1.push (seqObj "list" acc.toList.toArray 0)) (t':=tk) λb o e=>Yk _ e
 have na:H h1.objs.size=none:=I1.hok.fresh (Yd _)
 have la:h1.objs.size≠X.env.locals:=Nat.ne_of_gt I1.lt
 have a0:X.s₀.heap.objs.size<=h1.objs.size:=I1.sz
 have hl:acc.toList.length<64:=by rw[YO,hacc.1];omega
 refine Ya (wpAny_holding (wpAny_call_entry_kw slot_list_sort ⟨_,oa,rfl⟩ entry_list_sort ?body (ha2 _)))
 case body =>
  show wpAny (model X.prog X.w) X.A.in1.in1 (Builtin.«list.sort» ⟨[.ref h1.objs.size],kw⟩) _ _ _
  rw[ht]
  refine ZqF (e0:=0) (pins:=pins) (ns:=nats n) (kz:=kz) (I2.Za1 λq hq=>?_) a0 (λq hq=>?_) hia hl (λH' s' pins' i u hi J sm r=>?_) λH' s' out c J sm n2 o2 ko=>⟨_,rfl,Ye ⟨_,rfl,?_⟩⟩
  ·rcases Yo.mp hq with rfl|hq
   ·exact⟨oa,na,la,I1.nofs (Yd _),λv z=>by cases z⟩
   ·exact I2.pin q (Yq _ hq)
  ·exact Yl (Yj (I1.pin q hq).1)
  ·obtain⟨k,hk,rfl⟩:=YG.mp hi
   have:=YC.mp hk
   exact turn H' s' pins' _ u (by omega) (by omega) J sm r
  ·obtain⟨ns,hi,hpm,hpw⟩:=ZlG hia ko
   have ca:∀y cc,X.env.cells.lookup y=some cc->cc≠h1.objs.size:=λy cc hc' z=>by
    obtain⟨v,oc,w1,w2⟩:=I1.cell y cc hc'
    exact absurd (Yj w1) (by rw[z];exact YB _)
   have K:=J.track (a:=h1.objs.size) (o:=.lst (ns.map V.int)) n2 la (.inr a0) ca (λq hq=>Yl (Yj (I1.pin q hq).1)) ⟨?_,out.toList,c,Zf2 hi,by rw[Array.toArray_toList];exact o2⟩
   ·exact⟨.ref h1.objs.size,_,K,rfl,fin ns _ _ hpm hpw (λb o e=>by rw[Zh (Zo e na)];exact sm _ _ e) na Zb⟩
   ·rw[Yi,hpm.length_eq]
    unfold nats
    rw[Yi,Y4]
    exact Yf (show n.toNat<=1000 by omega) (by decide)
noncomputable def tSortR2 (ta td:TA) (tb:TE) (js:List (Option Nat)) (env:Env) (P:Addr) (q:Str) (params:Arguments) (body:Expr) (scope:Scope):TE:=fun σ H Q=>ta σ H λvs H1=>td σ H1 λzs H2=>∃(p f:Addr) (n:Int) (kz:Int->Int),
 vs=[.ref p]/\zs=[.ref f,.bl true]/\H2 p=some (.rng 0 n)/\0<=n/\n<64/\ZlD env P q params body scope H2 f /\
 (∀i H3,0<=i->i<n->Zf H2 H3->tb ((iniC js σ).set 0 (some (.int i))) H3 λv H4=>v=.int (kz i)/\Zf H3 H4) /\
 ∀(ns:List Int) (l:Addr) (H3:Hp),ns.Perm (nats n)->(ns.Pairwise λx y=>kz y<=kz x)->Zf H2 H3->H2 l=none->H3 l=some (.lst (ns.map V.int))->Q (.ref l) H3
theorem ZoM {pins':List (Addr×Obj)}{σ:St}{H':Hp}{s':Shared}{Nc:List Str}{js:List (Option Nat)}{q pn:Str}{params:Arguments}{body:Expr}{scope:Scope}{P f:Addr}{tb:TE}{Q:VK}{m:Nat}{i:Int}{u:Value} (hr:Room m X.A)
  (S:LamSc X Nc js params body scope pn) (hbody:∀cl L f c s H,PE (ZkD X X.A.in1.in1 Nc q scope cl L f c s H) body tb) (J:Inv X pins' σ H' s') (L:ZlD X.env P q params body scope H' f) (r:RelV (.int i) u)
  (h:tb ((iniC js σ).set 0 (some (.int i))) H' Q):wpAny (model X.prog X.w) X.A.in1.in1 (call (.ref f) [u]) (EP X pins' σ Q) (λ_ _=>False) s' :=
 ZoJ S hbody J J.ok.frames J.ok.hd hr.depth L r h
theorem Zno {Nc:List Str}{js:List (Option Nat)}{q pn:Str}{params:Arguments}{body:Expr}{scope:Scope}{P:Addr}{ta td:TA}{tb:TE}{m:Nat}{e:Expr}{e2:Expr}{p pos lpos kp1 kp2:Pos} (hc:X.calm=true) (hr:Room m X.A) (S:LamSc X Nc js params body scope pn)
  (hbody:∀cl L f c s H,PE (ZkD X X.A.in1.in1 Nc q scope cl L f c s H) body tb) (hg:Gl X "sorted") (hm:X.mg "sorted"=none) (ha:PA X [e] ta) (hd:PK X [⟨some (Str.ofString "key"),.Lambda params body scope lpos,kp1⟩,⟨some (Str.ofString "reverse"),e2,kp2⟩] td)
  (hpl:(backTo pos (starEach [e] X.env)).any (·.1)=false:=by rfl) (hall:(backToKw pos (keywordEach [⟨some (Str.ofString "key"),.Lambda params body scope lpos,kp1⟩,⟨some (Str.ofString "reverse"),e2,kp2⟩] X.env)).all (·.1.isSome)=true:=by rfl)
  (hnn:(backToKw pos (keywordEach [⟨some (Str.ofString "key"),.Lambda params body scope lpos,kp1⟩,⟨some (Str.ofString "reverse"),e2,kp2⟩] X.env)).any (·.1.isNone)=false:=by rfl) (hks:(backToKw pos (keywordEach [⟨some (Str.ofString "key"),.Lambda params body scope lpos,kp1⟩,⟨some (Str.ofString "reverse"),e2,kp2⟩] X.env)).filterMap (·.1)=[Str.ofString "key",Str.ofString "reverse"]:=by rfl) (hb:backTo pos (starEach [e] X.env)=(false,eval e X.env)::backTo pos (starEach [] X.env):=by rfl) :
  PE X (.Call (.Name "sorted" p) [e] [⟨some (Str.ofString "key"),.Lambda params body scope lpos,kp1⟩,⟨some (Str.ofString "reverse"),e2,kp2⟩] pos) (tSortR2 ta td tb js X.env P q params body scope):=by
 intro pins s σ H Q I h
 refine wpAny_Call_Name_kw (Zbc I hg hm Znb ?_)
 refine PyProof.Rows.callWith_kw (thn (ha pos pins s σ H _ I h) λus s1 ⟨vs,H1,I1,r1,q1⟩=>?_) hb hpl hall hnn
 refine thn (hd pos pins s1 σ H1 _ I1 q1) λws s2 ⟨zs,H2,I2,r2,pp,f,n,kz,e1,e2,hp,h0,h64,L,tn,fin⟩=>?_
 subst e1 e2
 obtain⟨u,rfl,ru⟩:=r1.one
 cases(show u=Value.ref pp from ru)
 rw[hks]
 obtain⟨v,v2,rfl,rv,rv2⟩:=r2.two
 cases(show v=Value.ref f from rv)
 cases(show v2=Value.bool true from rv2)
 exact ZlH (f:=.ref f) (b:=true) (kz:=kz) I2 hc hp h0 h64 (ksk_s2 _ _ _) (λx=>ksk_l2 _ _ _) (λx=>ksk_t2 _ _ _) (λH' s' pins' i u hi0 hi1 J sm r=>ZoM hr S hbody J (L.same sm) r (tn i H' hi0 hi1 sm)) (λns l H' a1 a2=>fin ns l H' a1 a2)
end
noncomputable def lamQ (x:Str):Str:=(x++".<locals>.")++"<lambda>"
noncomputable def ZbA (K:Frag) (mg:Str->Option Value) (x:Str) (H:Hp):Prop:=H (ZjC K mg x)=some (ZhN (lamQ x))
theorem ZbA.same {K:Frag}{mg:Str->Option Value}{x:Str}{H H':Hp} (h:ZbA K mg x H) (s:Zf H H'):ZbA K mg x H':=s _ _ h
noncomputable def LamD (K:Frag) (mg:Str->Option Value) (x:Str) (f:Addr):Prop:=∃c,Znm K f=some c/\codeHdIn K c (ZjC K mg x)=true
section
variable {P:Program}{w:World}{K:Frag}{mg:Str->Option Value}{base:Heap}
theorem Fun.okL {x qual:Str}{st:Stmt}{f:Addr}{fd:FuncData}{N ps:List Str}{k:Nat}{sp:Sp} (F:Fun K x qual st f fd) (L:LamD K mg qual f) (B:BM mg base) (S:FnScope N ps (defScope st)) (len:∀vs H Q E,sp vs H Q E->vs.length=ps.length)
  (hbody:∀(cdv:Value) (A:Around) (outer:List Env) (s:Shared) (H:Hp) (vs:List V) (Q:VK) (E:XK),LamIn (Zfo (CXE P w) P w K mg base N qual (defScope st) f cdv A outer s H E) (ZjC K mg qual) (lamQ qual)->Room k (A.deeper (envOfC qual (defScope st) s.heap.objs.size f cdv))->sp vs H Q E ->
   ∃t,PSs (Zfo (CXE P w) P w K mg base N qual (defScope st) f cdv A outer s H E) (defBody st) t/\t {nx:=λ_ H'=>Q .non H',rt:=Q} (start N vs) H):FnOk P w K mg base (CXE P w) (k+1) f fd ps sp:=by
 obtain⟨oc,od,kV,doc,pm,an,cdv,ct,osl,rfl,lk,hcd⟩:=F.ex
 obtain⟨c,h1,h2⟩:=L
 have e:cdv=.ref c:=by
  unfold Znm at h1
  rw[lk]at h1
  dsimp only at h1
  cases cdv<;>first|(cases h1;rfl)|(cases h1;done)
 exact fn_of lk hcd S len λA outer s H vs Q E hr hsp=>hbody cdv A outer s H vs Q E ⟨⟨c,e,h2⟩,B,rfl⟩ hr hsp
end
theorem ZoN {b:Addr}{q:Str}:∀{l:List (Addr×Str)},l.lookup b=some q->(b,q)∈l
 |[],e=>by cases e
 |(c,y)::r,e=>by
  rw[List.lookup_cons]at e
  cases hb:b==c with
  |true=>rw[hb]at e;cases e;rw[eq_of_beq hb];exact YQ
  |false=>rw[hb]at e;exact YK _ (ZoN e)
theorem ZqG {K:Frag}{mg:Str->Option Value}{x:Str}{f c T:Addr}{oc1 oc2:Value}{od1 od2:Option Addr}{fd:FuncData}{sl1 sl2:Array (Option Value)}{vs:Array Value} (hm:mg x=some (.ref f)) (l1:K.lookup f=some ⟨oc1,od1,.func fd,sl1⟩) (e:fd.code=.ref c) (l2:K.lookup c=some ⟨oc2,od2,.fields vs,sl2⟩) (h11:vs[11]?=some (.ref T)):ZjC K mg x=T/\Znm K f=some c:=by
 have h1:Znm K f=some c:=by
  unfold Znm
  rw[l1]
  dsimp only
  rw[e]
 refine⟨?_,h1⟩
 unfold ZjC
 rw[hm]
 dsimp only
 rw[h1]
 dsimp only
 unfold tabOf
 rw[l2]
 dsimp only
 rw[h11]
theorem Znp {P:Program}{w:World}{K:Frag}{mg mb:Str->Option Value}{CX:CXT}{k:Nat}{fa a:Addr}{fd:FuncData}{x:Str}{sp:Sp}{s₁:Shared}{vs:List Value}{ns:List Int}{tabs:List (Addr×Str)}
  (KX:K.In s₁.heap) (hns:s₁.heap.Ns mainGlobals mg) (hb:s₁.heap.Ns builtinsNs mb) (hbb:∀x:Str,x≠"__name__"->mb x=bootBuiltins x) (hlim:s₁.heap.NoLimit) (hg:s₁.gens=#[]) (hbm:BM mg s₁.heap)
  (ha:s₁.heap.get? a=some {cls:=.type "list",data:=.seq vs.toArray}) (hi:IntsAre vs ns) (hl:ns.length<=sizeLine) (hr:Room k callerA)
  (hT:∀p∈tabs,s₁.heap.get? p.1=some (tabObj #[])/\K.lookup p.1=none/\∃c,codeHdIn K c p.1=true) (nd:(tabs.map (·.1)).Nodup)
  (F:∀base:Heap,K.In base->base.Ns mainGlobals mg->BM mg base->FnOk P w K mg base CX k fa fd [x] sp) (hbind:∀(s:Shared) (u:Value),BindsTo s fd ⟨[u],[]⟩ [(x,u)])
  (hsp:∀H:Hp,SqL K H a (ns.map V.int)->(∀p∈tabs,H p.1=some (ZhN p.2))->sp [.ref a] H (λv _=>v=.bl true) λ_ _ _=>False)
  (hCX:∀H e s',CX [] H s₁ (λ_ _ _=>False) e s'->False) :
  codeAny (model P w) callerA (.call (.ref fa) ⟨[.ref a],[]⟩) (λr s'=>r=.ok (.ret (.bool true))/\OldK s₁.heap s'.heap/\s'.os=s₁.os/\AllBare s'.gens) s₁:=by
 have rv:=Zf2 hi
 have lenV:=hi.length
 have tmem:∀b q,tabs.lookup b=some q->(b,q)∈tabs:=λb q e=>ZoN e
 have tlook:∀p∈tabs,tabs.lookup p.1=some p.2:=by
  clear hT hsp tmem
  induction tabs with
  |nil=>intro p hp;cases hp
  |cons t r ih =>
   intro p hp
   rw[YA,List.nodup_cons]at nd
   rcases Yo.mp hp with rfl|hp
   ·rw[List.lookup_cons,beq_self_eq_true]
   ·have:(p.1==t.1)=false:=beq_eq_false_iff_ne.mpr λz=>nd.1 (YG.mpr ⟨p,hp,z⟩)
    rw[List.lookup_cons,this]
    exact ih nd.2 p hp
 have core:∀H:Hp,SqL K H a (ns.map V.int)->HOk P w H s₁.heap->(∀b,H b=none\/(b=a/\K.lookup a=none/\∃o xs,H b=some (.frz o (.lst xs)))\/∃q,(b,q)∈tabs/\H b=some (ZhN q))->(∀p∈tabs,H p.1=some (ZhN p.2)) ->
   codeAny (model P w) callerA (.call (.ref fa) ⟨[.ref a],[]⟩) (λr s'=>r=.ok (.ret (.bool true))/\OldK s₁.heap s'.heap/\s'.os=s₁.os/\AllBare s'.gens) s₁:=by
  intro H hS hok hA hTb
  have base_of:∀{b:Addr}{o:Obj},s₁.heap.get? b=some o->H b=none->(Zil s₁.heap H).get? b=some o:=λe n=>ZnS e n
  have noA:∀{b:Addr}{o:Obj},s₁.heap.get? b=some o->o.cls≠.type "list"->o.cls≠.none->H b=none:=λ{b o} e d1 d2=>by
   rcases hA b with z|⟨z,_⟩|⟨q,z,_⟩
   ·exact z
   ·subst z;rw[ha]at e;cases e;exact absurd rfl d1
   ·rw[(hT _ z).1]at e;cases e;exact absurd rfl d2
  have noD:∀{b:Addr}{o:Obj}{es:Array DictEntry}{ep:Nat},s₁.heap.get? b=some o->o.data=.dict es ep->H b=none:=λ{b o es ep} e d=>by
   rcases hA b with z|⟨z,_⟩|⟨q,z,_⟩
   ·exact z
   ·subst z;rw[ha]at e;cases e;cases d
   ·rw[(hT _ z).1]at e;cases e;cases d
  have nsK:∀{b:Addr}{m:Str->Option Value},s₁.heap.Ns b m->(Zil s₁.heap H).Ns b m:=λ{b m} ⟨o,es,ep,e,d,r⟩=>⟨o,es,ep,base_of e (noD e d),d,r⟩
  have hKb:K.In (Zil s₁.heap H):=λb o e=>base_of (KX b o e) (by
   rcases hA b with z|⟨z,zk,_⟩|⟨q,z,_⟩
   ·exact z
   ·subst z;rw[zk]at e;cases e
   ·rw[(hT _ z).2.1]at e;cases e)
  have hM:Mod K mg (Zil s₁.heap H):=⟨hKb,nsK hns,⟨mb,nsK hb,hbb⟩,let ⟨mc,h1,h2⟩:=hlim;⟨mc,nsK h1,h2⟩⟩
  have hB:BM mg (Zil s₁.heap H):=by
   obtain⟨bm,ob,b1,b2,b3,b4,b5,b6,b7⟩:=hbm
   exact⟨bm,ob,b1,b2,b3,base_of b4 (noA b4 (by rw[b5];decide) (by rw[b5];nofun)),b5,b6,b7⟩
  have e0:Env0 P w K mg (Zil s₁.heap H) callerA [] s₁ H:=⟨rfl,hM,λb o e=>Zqf e,Y5 (ZmG _ _),trivial,λb hb=>absurd (show b∈([]:List Addr)from hb) (by simp),hok,.of_eq hg⟩
  refine codeAny_mono ((F _ hKb (nsK hns) hB).run callerA [] s₁ H ⟨[.ref a],[]⟩ [.ref a] [.ref a] _ _ hr e0 (hbind s₁ (.ref a)) (.cons rfl .nil) (hsp H hS hTb)) λr s' h=>?_
  cases r with
  |error e=>exact(hCX H e s' h).elim
  |ok fl =>
   cases fl with
   |next=>exact False.elim h
   |brk=>exact False.elim h
   |cont=>exact False.elim h
   |ret u =>
    obtain⟨v,H',os,bare,un,hok',r',q⟩:=h
    have q':v=.bl true:=q
    subst q'
    obtain rfl:u=Value.bool true:=r'
    have old:∀b o,s₁.heap.get? b=some o->asItWas s₁.heap s'.heap b o/\∃o',s'.heap.get? b=some o':=λb o e=>by
     rcases hA b with z|⟨_,_,ob,xs,z⟩|⟨q,zm,z⟩
     ·have:=un.keep b o e z (by intro y;exact absurd (show b∈([]:List Addr)from y) (by simp)) (by simp)
      exact⟨.inl this,o,this⟩
     ·have z2:=un.frzs b ob _ z
      obtain⟨e1,_⟩:=hok b _ z
      obtain⟨e2,_⟩:=hok' b _ z2
      rw[e]at e1;cases e1
      exact⟨.inl e2,o,e2⟩
     ·obtain⟨more,z2⟩:=un.tbls b _ z
      obtain⟨ts,e2,_⟩:=hok' b _ z2
      obtain⟨t1,_,c,t3⟩:=hT _ zm
      have t1':s₁.heap.get? b=some (tabObj #[]):=t1
      rw[e]at t1';cases t1'
      refine⟨.inr (.inl ⟨((codeHd_of_K KX t3).tab t1).isCodeTable,rfl,#[],ts,rfl,by rw[Array.empty_append];exact e2⟩),_,e2⟩
    exact⟨rfl,⟨λb o e=>(old b o e).1,λb o e=>(old b o e).2⟩,os,bare⟩
 have neA:∀q,(a,q)∉tabs:=λq z=>by
  have:=(hT _ z).1
  rw[show((a,q):Addr×Str).1=a from rfl,ha]at this;cases this
 have tabok:∀(H:Hp) (b:Addr) (q:Str),(b,q)∈tabs->ZW P w H s₁.heap b (ZhN q):=λH b q z=>⟨#[],(hT _ z).1,trivial,λpos cv e=>by cases e⟩
 cases hk:K.lookup a with
 |some o =>
  have e:=KX a o hk
  rw[ha]at e
  cases e
  refine core (λb=>(tabs.lookup b).map ZhN) (.inr ⟨_,vs.toArray,_,hk,rfl,rfl,rfl,by rw[Yt,lenV];exact hl,by simpa using rv⟩) (λb u z=>?_) (λb=>?_) λp hp=>by rw[tlook p hp];rfl
  ·dsimp only at z
   cases q:tabs.lookup b with
   |none=>rw[q]at z;cases z
   |some y=>rw[q]at z;cases z;exact tabok _ b y (tmem b y q)
  ·cases q:tabs.lookup b with
   |none=>exact .inl rfl
   |some y=>exact .inr (.inr ⟨y,tmem b y q,rfl⟩)
 |none =>
  refine core (λb=>if b=a then some (.frz {cls:=.type "list",data:=.seq vs.toArray} (.lst (ns.map V.int)))else (tabs.lookup b).map ZhN) (.inl (.inr ⟨{cls:=.type "list",data:=.seq vs.toArray},Yc rfl⟩)) (λb u z=>?_) (λb=>?_) λp hp=>?_
  ·by_cases hb:b=a
   ·have z':=(Yc hb).symm.trans z
    cases z'
    subst hb
    exact⟨ha,by rw[Yi];exact hl,vs,_,rv,ha⟩
   ·have z':=(Yb hb).symm.trans z
    cases q:tabs.lookup b with
    |none=>rw[q]at z';cases z'
    |some y=>rw[q]at z';cases z';exact tabok _ b y (tmem b y q)
  ·by_cases hb:b=a
   ·exact .inr (.inl ⟨hb,hk,_,_,Yc hb⟩)
   ·cases q:tabs.lookup b with
    |none=>exact .inl (by rw[Yb hb];rfl)
    |some y=>exact .inr (.inr ⟨y,tmem b y q,by rw[Yb hb];rfl⟩)
  ·have:p.1≠a:=λz=>neA p.2 (by rw[<-z];exact hp)
   rw[Yb this,tlook p hp];rfl
theorem ZoO {l:OpenLaw}{n k:Nat}{q:Program}{loose:List Str}{XP:(Str->Option Value)->Heap->Prop}{YP:World->Heap->Prop}{d:DefRec}{K:Params->Frag}{CX:World->CXT}{sp:World->(Str->Option Value)->Sp}{x:Str}{ts:List Addr}{tabs:Frag->(Str->Option Value)->List (Addr×Str)}
  (hn:l.most=some n) (hn2:n<=sizeLine) (hdf:d.params.defaults=[]) (hr:Room k callerA)
  (hY:∀(w:World) (h:Heap),YP w h->(K w.params).In h) (hY2:∀(w:World) (h:Heap),YP w h->∀P∈ts,h.get? P=some (tabObj #[]))
  (F:∀(w:World) (mg:Str->Option Value) (fa:Addr) (h:Heap),(K w.params).In h->h.Ns mainGlobals mg->mg d.name=some (.ref fa) ->
   ∃fd:FuncData,(∀(s:Shared) (u:Value),BindsTo s fd ⟨[u],[]⟩ [(x,u)])/\(∀p∈tabs (K w.params) mg,p.1∈ts/\(K w.params).lookup p.1=none/\∃c,codeHdIn (K w.params) c p.1=true)/\((tabs (K w.params) mg).map (·.1)).Nodup /\
    ∀base:Heap,(K w.params).In base->base.Ns mainGlobals mg->BM mg base->FnOk l.prog w (K w.params) mg base (CX w) k fa fd [x] (sp w mg))
  (hsp:∀(w:World) (mg:Str->Option Value) (H:Hp) (a:Addr) (ns:List Int),ns.length<=n->SqL (K w.params) H a (ns.map V.int)->(∀p∈tabs (K w.params) mg,H p.1=some (ZhN p.2))->sp w mg [.ref a] H (λv _=>v=.bl true) λ_ _ _=>False)
  (hCX:∀(w:World) (H:Hp) (s:Shared) (e:Value) (s':Shared),CX w [] H s (λ_ _ _=>False) e s'->False) :
  WalkO q loose XP YP l.row.toRowW d [] (λf vs=>PySem.call f vs):=by
 refine Att.Zkg hn hdf λw s₀ s₁ mg mb fa o pm cd doc a vs ns G Y ho hd hcd hmg hobj hints hlen hg=>?_
 have KX:=hY w _ Y
 have TX:=hY2 w _ Y
 obtain⟨fd,hb,hT,nd,hF⟩:=F w mg fa _ KX G.T.g hmg
 have hbm:BM mg s₁.heap:=by
  obtain⟨bm,ob,b1,b2,b3,b4,b5,b6⟩:=G.T.bmain
  have bG:bm≠mainGlobals:=λz=>by
   obtain⟨o,es,ep,e,hd,_⟩:=G.T.g
   rw[z,e]at b3;cases b3;rw[hd]at b6;cases b6
  exact⟨bm,ob,b1,b2,bG,b3,b4,b5,b6⟩
 exact Znp KX G.T.g G.T.b G.T.builtins G.T.nolimit hg hbm hobj hints (Yf hlen hn2) hr (λp hp=>⟨TX _ (hT p hp).1,(hT p hp).2⟩) nd hF hb (λH hS hTb=>hsp w mg H a ns hlen hS hTb) λH e s'=>hCX w H s₁ e s'
section
variable {prog:Program}{w:World}{A:Around}{E:Value->Shared->Prop}{s:Shared}
theorem Zi2 {it t:Addr}{items:Array Value} (hh:A.handled=none) (hne:t≠it):∀(n i:Nat) (s:Shared) (Q:List Value->Shared->Prop),s.heap.IsListIter it t i->s.heap.IsList t items->i+n<=items.size ->
  (∀h' tk,h'.IsListIter it t (i+n)->h'.IsList t items->(∀b o,b≠it->s.heap.get? b=some o->h'.get? b=some o)->Q ((items.toList.drop i).take n) {s with heap:=h',toks:=tk})->wpAny (model prog w) A (draw (.ref it) n) Q E s
 |0,i,s,Q,hit,hl,_,hQ=>by
  show wpAny _ _ (pure []) Q E s
  exact Ye (by simpa using hQ s.heap s.toks hit hl λb o _ e=>e)
 |n+1,i,s,Q,hit,hl,hle,hQ=>by
  have hlt:i<items.size:=by omega
  have W:=Walks.list (prog:=prog) (w:=w) (A:=A) hh it t hne items
  show wpAny _ _ (pyNext (.ref it) >>= _) Q E s
  refine Ya (W.item i _ _ _ hlt ⟨hit,hl⟩ λv h₁ tk₁ hP hst hk=>?_)
  have hv:items[i]?=some v:=hP
  rw[getElem?_pos items i hlt]at hv
  cases hv
  refine Ya (wpAny_holding (Zi2 hh hne n (i+1) _ _ hst.1 hst.2 (by omega) λh₂ tk₂ hit₂ hl₂ hk₂=>Ye ?_))
  have hd:items.toList.drop i=items[i]::items.toList.drop (i+1):=by simp[List.drop_eq_getElem_cons,hlt]
  have:=hQ h₂ tk₂ (by rw[show i+(n+1)=i+1+n by omega];exact hit₂) hl₂ λb o hb e=>hk₂ b o hb (hk b o (by simpa using hb) e)
  rw[hd,List.take_succ_cons]at this
  exact this
theorem Zgb {t:Addr}{items:Array Value}{Q:List Value->Shared->Prop} (hh:A.handled=none) (ht:s.heap.IsList t items)
  (hQ:∀h' tk,(∀b o,s.heap.get? b=some o->h'.get? b=some o)->Q items.toList {s with heap:=h',toks:=tk}):wpAny (model prog w) A (unpackItems (.ref t) items.size none) Q E s:=by
 have hlt:t≠s.heap.objs.size:=by obtain⟨o,ho,_⟩:=ht;exact Yl (Yj ho)
 have old:∀b o,s.heap.get? b=some o->b≠s.heap.objs.size:=λb o e=>Yl (Yj e)
 unfold unpackItems
 refine Ya ?_
 ·unfold notIterableAtAll
  refine Ya (wpAny_specialOf ht.typeIs slot_list_iter.lookup ?_)
  refine Ye ?_
  simp only[Bool.false_eq_true,if_false]
  refine Ya (wpAny_holding (wpAny_pyIter_list ht ?_))
  have hl2:(s.heap.push {cls:=.type "list_iterator",data:=.fields #[.ref t,.int 0 0]}).IsList t items:=by
   obtain⟨o,e,r⟩:=ht
   exact⟨o,Yk _ e,r⟩
  refine Ya (wpAny_holding (Zi2 hh hlt items.size 0 _ _ ⟨_,Yp _ rfl,rfl,rfl⟩ hl2 (by omega) λh₁ tk₁ hit₁ hl₁ hk₁=>?_))
  have hall:List.take items.size (List.drop 0 items.toList)=items.toList:=by
   rw[List.drop_zero];exact List.take_of_length_le (by simp)
  rw[hall]
  rw[Yb (by simp)]
  have W:=Walks.list (prog:=prog) (w:=w) (A:=A) hh s.heap.objs.size t hlt items
  refine Ya (wpAny_holding (W.done _ _ _ ⟨by rw[Nat.zero_add]at hit₁;exact hit₁,hl₁⟩ λh₂ tk₂ hk₂=>?_))
  simp only[Option.isSome_none,Bool.false_eq_true,if_false]
  exact Ye (hQ h₂ tk₂ λb o e=>hk₂ b o (by simpa using old b o e) (hk₁ b o (old b o e) (Yk _ e)))
end
section
variable {X:Cx}
noncomputable def gLst (K:PySem.W.Frag) (n:Nat) (t:TGs):TG:=λv σ H Q=>∃a xs,v=.ref a/\SqL K H a xs/\xs.length=n/\t xs σ H Q
theorem pg_lst {K:Frag}{es:List Expr}{pos:Pos}{k:Nat}{t:TGs}{n:Nat} (hK:X.K=K) (hc:X.calm=true) (h:PGs X es t)
  (hn:(assignEach es X.env).length=n:=by rfl) (hst:(assignEach es X.env).findIdx? (·.1)=none:=by rfl):PG X (.Tuple es k pos) (gLst K n t):=by
 subst hK
 intro pins s σ H v u Q I r hw
 obtain⟨a,xs,e1,hq,hl,hw⟩:=hw
 subst e1
 cases r
 obtain⟨its,rv,pl,hz⟩:=I.list hq
 have hlen:(assignEach es X.env).length=its.toArray.size:=by
  have:=rv.length
  rw[hn,Yt];omega
 rw[assign_Tuple]
 refine Ya (wpAny_standAt ?_)
 unfold unpack
 rw[hlen,hst]
 refine Ya (wpAny_holding (Zgb (I.ok.hd hc) pl.isList λh' tk kp=>?_))
 exact h pins _ σ H xs _ Q (I.kept kp) (by simpa using rv) hw
end
section
variable {ky:Keyed->Int}
noncomputable def Srt (ky:Keyed->Int) (l:List Keyed):Prop:=l.Pairwise (λx y=>ky x<=ky y)
variable {a b out:List Keyed}{ia ib:Nat}
noncomputable def Gd (ky:Keyed->Int) (a b res:List Keyed):Prop:=res.Perm (a++b)/\Srt ky res
variable {prog:Program}{w:World}{A:Around}{E:Value->Shared->Prop}{s:Shared}{κ:SortKind}{P:Keyed->Prop}
end
section
variable {ky:Keyed->Int}
noncomputable def kp (ky:Keyed->Int) (a:Array Keyed) (i:Nat):Int:=ky (a.getD i (Value.none,Value.none))
theorem kp_at {a:Array Keyed}{i:Nat} (h:i<a.size):kp ky a i=ky a[i]:=by unfold kp;simp[Array.getD,h]
noncomputable def SoR (ky:Keyed->Int) (a:Array Keyed) (l r:Nat):Prop:=∀i j,l<=i->i<=j->j<r->kp ky a i<=kp ky a j
structure Chg (a a':Array Keyed) (l r:Nat):Prop where
 perm:a'.Perm a
 same:∀i,i<l\/r<=i->a'[i]?=a[i]?
variable {prog:Program}{w:World}{A:Around}{E:Value->Shared->Prop}{s:Shared}{κ:SortKind}{P:Keyed->Prop}
end
section
variable {ky:Keyed->Int}
variable {a a':Array Keyed}
theorem ZmA (base:Nat):∀(m:List Keyed) (n:Nat) (a:Array Keyed),base+n+m.length<=a.size ->
  (List.foldl (λ(a:Array Keyed) (x:Keyed×Nat)=>a.setIfInBounds (base+x.2) x.1) a (m.zipIdx n)).toList=a.toList.take (base+n)++m++a.toList.drop (base+n+m.length)
 |[],n,a,h=>by simp
 |x::m,n,a,h=>by
  simp only[Yn]at h
  rw[List.zipIdx_cons,List.foldl_cons,ZmA base m (n+1) _ (by simp;omega)]
  simp only[Array.toList_setIfInBounds,Yn]
  have e1:(a.toList.set (base+n) x).take (base+(n+1))=a.toList.take (base+n)++[x]:=by
   rw[<-Nat.add_assoc,Y9,List.take_set,List.getElem?_set]
   rw[List.set_eq_of_length_le (by simp;omega)]
   simp[show base+n<a.size by omega]
  have e2:(a.toList.set (base+n) x).drop (base+(n+1)+m.length)=a.toList.drop (base+n+(m.length+1)):=by
   rw[List.drop_set_of_lt (by omega)]
   congr 1;omega
  rw[e1,e2]
  simp
variable {prog:Program}{w:World}{A:Around}{E:Value->Shared->Prop}{s:Shared}{κ:SortKind}{P:Keyed->Prop}
theorem laid {base mid r:Nat}{res:Array Keyed} (h1:base<=mid) (h2:mid<=r) (h3:r<=a.size) (hg:Gd ky (a.extract base mid).toList (a.extract mid r).toList res.toList) :
  ∃a':Array Keyed,List.foldl (λ(a:Array Keyed) (x:Keyed×Nat)=>a.setIfInBounds (base+x.2) x.1) a res.toList.zipIdx=a'/\Chg a a' base r/\SoR ky a' base r/\∀j,base<=j->j<r->∃t,base<=t/\t<r/\kp ky a' j=kp ky a t:=by
 have hlen:res.toList.length=r-base:=by
  have:=hg.1.length_eq
  simp only[YD,YO,Array.size_extract]at this⊢;omega
 have key:=ZmA base res.toList 0 a (by omega)
 have hb:base+0+res.toList.length=r:=by omega
 rw[hb,Nat.add_zero]at key
 refine⟨_,rfl,⟨?_,?_⟩,?_,?_⟩
 ·rw[Array.perm_iff_toList_perm,key]
  have e:a.toList=a.toList.take base++((a.extract base mid).toList++(a.extract mid r).toList)++a.toList.drop r:=by
   simp only[Array.toList_extract,List.extract_eq_drop_take]
   have:(a.toList.drop base).take (mid-base)++(a.toList.drop mid).take (r-mid)=(a.toList.drop base).take (r-base):=by
    have e2:r-base=(mid-base)+(r-mid):=by omega
    rw[e2,List.take_add,List.drop_drop]
    congr 3;omega
   rw[this]
   have e3:a.toList.drop r=(a.toList.drop base).drop (r-base):=by rw[List.drop_drop];congr 1;omega
   rw[e3,YT,Jc,Jc]
  conv=>rhs;rw[e]
  exact List.Perm.append_right _ (List.Perm.append_left _ hg.1)
 ·intro i hi
  rw[<-Array.getElem?_toList,<-Array.getElem?_toList,key]
  have hl0:(a.toList.take base).length=base:=by simp;omega
  rcases hi with hi|hi
  ·rw[YT,YS (by omega),List.getElem?_take_of_lt hi]
  ·rw[YY (by simp;simp at hlen;omega),List.getElem?_drop]
   congr 1
   simp only[YD,hl0,hlen];omega
 all_goals
  have atm:∀j,(hj0:base<=j)->(hj:j<r)->kp ky (List.foldl (λ(a:Array Keyed) (x:Keyed×Nat)=>a.setIfInBounds (base+x.2) x.1) a res.toList.zipIdx) j=ky (res.toList[j-base]'(by omega)):=by
   intro j j1 j2
   have hl0:(a.toList.take base).length=base:=by simp;omega
   have:(List.foldl (λ(a:Array Keyed) (x:Keyed×Nat)=>a.setIfInBounds (base+x.2) x.1) a res.toList.zipIdx)[j]?=some (res.toList[j-base]'(by omega)):=by
    rw[<-Array.getElem?_toList,key,YT,YY (by omega),YS (by omega),hl0,Yh (by omega)]
   unfold kp
   rw[Array.getD_eq_getD_getElem?,this];rfl
 ·intro i j hi hij hj
  rw[atm i hi (by omega),atm j (by omega) hj]
  by_cases e:i=j
  ·subst e;exact Int.le_refl _
  ·exact List.pairwise_iff_getElem.mp hg.2 _ _ _ _ (by omega)
 ·intro j j1 j2
  rw[atm j j1 j2]
  have hm:(res.toList[j-base]'(by omega))∈(a.extract base mid).toList++(a.extract mid r).toList:=(List.Perm.mem_iff hg.1).mp (YF _)
  rcases Yz.mp hm with hm|hm
  ·obtain⟨t,ht,e⟩:=List.mem_iff_getElem.mp hm
   simp only[YO,Array.size_extract]at ht
   simp only[Array.getElem_toList,Array.getElem_extract]at e
   exact⟨base+t,by omega,by omega,by rw[kp_at (by omega),e,Array.getElem_toList]⟩
  ·obtain⟨t,ht,e⟩:=List.mem_iff_getElem.mp hm
   simp only[YO,Array.size_extract]at ht
   simp only[Array.getElem_toList,Array.getElem_extract]at e
   exact⟨mid+t,by omega,by omega,by rw[kp_at (by omega),e,Array.getElem_toList]⟩
end
end L2
namespace L2
open PySem PySem.Spec PyProof.Rows
end L2
namespace L2
open PySem PySem.Spec PyProof.Rows PySem.W
end L2
namespace L2
open PySem PySem.Spec PyProof.Rows PySem.W PySem.Calls
end L2
namespace L2
open PySem PySem.Spec PyProof.Rows PySem.W
theorem le1 {n:Nat}{us:List Value} (e:us.length=n+1):∃a t,us=a::t/\t.length=n:=by
 cases us with
 |nil=>cases e
 |cons a t=>exact⟨a,t,rfl,Nat.succ.inj e⟩
theorem le0 {us:List Value} (e:us.length=0):us=[]:=List.length_eq_zero_iff.mp e
noncomputable def kwS (v:Value):List (Str×Value):=[(Str.ofString "start",v)]
theorem ZhO (a v:Value):checkTypeCall "enumerate" ⟨[a],kwS v⟩=pure ():=by kernel_rfl
theorem Zir (a v:Value):checkBuiltinCall "enumerate.__new__" ⟨[.type "enumerate",a],kwS v⟩=pure ():=by kernel_rfl
theorem ZhP (obj a v:Value):argsOk "object.__init__" ⟨[obj,a],kwS v⟩:=by
 unfold argsOk;kernel_rfl
section
variable {prog:Program}{w:World}{A:Around}{E:Value->Shared->Prop}{s:Shared}
theorem ZlI (self a v:Value):Meets (Builtin.«object.__init__» ⟨[self,a],kwS v⟩) (λ_ R s=>s.TypeIs self "enumerate"/\R (.ok (.ret .none)) s):=by
 have hl:=F.called_enumerate.init.lookup
 have hm:=F.called_enumerate.made
 have hne:(some "enumerate.__new__" != some "object.__new__")=true:=by decide
 refine Meets.of_wp λprog w A R s hs=>?_
 obtain⟨hT,hq⟩:=hs
 repeat (any_goals (first|assumption|wp_step))
 exact⟨_,rfl,hq⟩
theorem ZkG (l:Addr) (items:Array Value) (t:Tok):MeetsIn prog w (Builtin.«enumerate.__new__» ⟨[.type "enumerate",.ref l],kwS (.int 1 t)⟩) λA R s=>s.heap.IsList l items/\R (.ok (.ret (.ref (s.heap.objs.size+1)))) {s with heap:=(s.heap.push {cls:=.type "list_iterator",data:=.fields #[.ref l,.int 0 0]}).push {cls:=.type "enumerate",data:=.fields #[.none,.bool false,.ref s.heap.objs.size,rawInt 1,.none,.none]}}:=by
 intro A R s ⟨h,hR⟩
 unfold Builtin.«enumerate.__new__»
 refine Ya (wpAny_of_eq (show Builtin.SmallTypes.newClass "enumerate" ⟨[.type "enumerate",.ref l],kwS (.int 1 t)⟩=pure (.type "enumerate",[.ref l])from by first|rfl|(unfold Builtin.SmallTypes.newClass;rfl)) ?_)
 show wpAny _ _ (_ >>= _) _ _ _
 have hsz:(s.heap.push {cls:=.type "list_iterator",data:=.fields #[.ref l,.int 0 0]}).objs.size=s.heap.objs.size+1:=Heap.size_push _ _
 refine Ya (thn (ZhD (.type "enumerate")) λb s' e=>?_)
 subst e
 cases b with
 |true =>
  show wpAny _ _ (_ >>= _) _ _ _
  refine Ya (wpAny_of_eq (show _=pure (.ref l,some (.int 1 t))from rfl) ?_)
  dsimp only
  refine Ya (wpAny_of_eq (show Builtin.SmallTypes.indexObject "enumerate.__new__" (.int 1 t)=pure (.int 1 t)from by first|rfl|(unfold Builtin.SmallTypes.indexObject;rfl)) ?_)
  refine Ya (wpAny_of_eq (show asInt? (.int 1 t)=pure (some 1)from rfl) ?_)
  dsimp only
  refine wpAny_ite_split (λhab=>absurd hab (by decide)) λ_=>?_
  refine Ya (wpAny_pyIter_list h ?_)
  show wpAny _ _ (newObj (.type "enumerate") (.fields #[.none,.bool false,.ref s'.heap.objs.size,rawInt 1,.none,.none]) >>= _) _ _ _
  refine Ya (wpAny_newObj_type (Ye ?_))
  rw[hsz];exact hR
 |false =>
  show wpAny _ _ (_ >>= _) _ _ _
  refine Ya (wpAny_of_eq (show _=pure (.ref l,some (.int 1 t))from rfl) ?_)
  dsimp only
  refine Ya (wpAny_of_eq (show Builtin.SmallTypes.indexObject "enumerate.__new__" (.int 1 t)=pure (.int 1 t)from by first|rfl|(unfold Builtin.SmallTypes.indexObject;rfl)) ?_)
  refine Ya (wpAny_of_eq (show asInt? (.int 1 t)=pure (some 1)from rfl) ?_)
  dsimp only
  refine wpAny_ite_split (λhab=>absurd hab (by decide)) λ_=>?_
  refine Ya (wpAny_pyIter_list h ?_)
  show wpAny _ _ (newObj (.type "enumerate") (.fields #[.none,.bool false,.ref s'.heap.objs.size,rawInt 1,.none,.none]) >>= _) _ _ _
  refine Ya (wpAny_newObj_type (Ye ?_))
  rw[hsz];exact hR
noncomputable def EnS (s:Shared) (l:Addr):Shared:={s with heap:=(s.heap.push {cls:=.type "list_iterator",data:=.fields #[.ref l,.int 0 0]}).push {cls:=.type "enumerate",data:=.fields #[.none,.bool false,.ref s.heap.objs.size,rawInt 1,.none,.none]}}
theorem ZlJ {l:Addr}{items:Array Value}{t:Tok}{Q:Value->Shared->Prop} (hl:s.heap.IsList l items)
  (h:Q (.ref (s.heap.objs.size+1)) (EnS s l)) :
  wpAny (model prog w) A (call (.type "enumerate") [.ref l] (kwS (.int 1 t))) Q E s:=by
 have ft:=F.called_enumerate
 obtain⟨c,tl,hmro⟩:=ft.mro
 have hmade:=ft.made
 have hsub:=ft.sub
 have hct:=ZhO (.ref l) (.int 1 t)
 have hcn:=Zir (.ref l) (.int 1 t)
 have hsz:(s.heap.push {cls:=.type "list_iterator",data:=.fields #[.ref l,.int 0 0]}).objs.size=s.heap.objs.size+1:=Heap.size_push _ _
 refine wpAny_call (codeAny_of_tree ?_)
 show wpAny _ _ (callAny (.type "enumerate") _) _ _ _
 refine Ye ⟨Code.quiet_builtin _ (by decide +kernel),codeAny_builtin PySem.F.entry_type_call ?_⟩
 rw[Around.under_plain (weight_type_call_type "enumerate" [.ref l] (kwS (.int 1 t))) (units_type_call_type "enumerate" [.ref l] (kwS (.int 1 t)))]
 have h1:=ft.notType
 have h2:=ft.canCreate
 repeat (any_goals (first|assumption|wp_step))
 have hsn:s.heap.IsList l items/\(λ(r:Result) (s1:Shared)=>r=.ok (.ret (.ref (s.heap.objs.size+1)))/\s1=(EnS s l)) (.ok (.ret (.ref (s.heap.objs.size+1)))) (EnS s l):=⟨hl,rfl,rfl⟩
 refine codeAny_mono (R:=λr s1=>r=.ok (.ret (.ref (s.heap.objs.size+1)))/\s1=(EnS s l)) (codeAny_call_builtin ft.plain F.entry_enumerate_new (wpAny_of_eq hcn (ZkG (prog:=prog) (w:=w) l items t A.in1 (λr s1=>r=.ok (.ret (.ref (s.heap.objs.size+1)))/\s1=EnS s l) s hsn))) λr s1 hr=>?_
 obtain⟨rfl,rfl⟩:=hr
 have hT:Shared.TypeIs (EnS s l) (.ref (s.heap.objs.size+1)) "enumerate":=⟨_,by show Heap.get? _ _=_;rw[<-hsz];exact Yp _ rfl,rfl⟩
 have hli:=ft.init.lookup
 have hbi:=ft.init.bind (.ref (s.heap.objs.size+1))
 have hsi:Shared.TypeIs (EnS s l) (.ref (s.heap.objs.size+1)) "enumerate"/\(λ(r:Result) (s2:Shared)=>r=.ok (.ret .none)/\s2=(EnS s l)) (.ok (.ret .none)) (EnS s l):=⟨hT,rfl,rfl⟩
 repeat (any_goals (first|assumption|wp_step))
 refine codeAny_mono (R:=λr s2=>r=.ok (.ret .none)/\s2=(EnS s l)) (codeAny_call_builtin ft.init.plain PySem.F.entry_object_init (ft.init.check _ _ _ _ _ _ _ _ hT (ZhP _ _ _) (ZlI (.ref (s.heap.objs.size+1)) (.ref l) (.int 1 t) prog w A.in1 (λr s2=>r=.ok (.ret .none)/\s2=EnS s l) _ hsi))) λr s2 hr=>?_
 obtain⟨rfl,rfl⟩:=hr
 repeat (any_goals (first|assumption|wp_step))
end
section
variable {X:Cx}
theorem ZgD {prog:Program}{w:World}{A:Around}{it:Addr}{fp:List Addr}{n:Nat}{P:Nat->Value->Prop}{St:Nat->Heap->Prop} (D:Draws prog w A it fp n P St):Draws prog w A it fp (n+1) (λi v=>P (i-1) v) (λi h=>1<=i/\St (i-1) h) where
 live:=λi h st=>D.live _ _ st.2
 frame:=λi h h' st k=>⟨st.1,D.frame _ _ _ st.2 k⟩
 item:=λi s Q E hi st h=>D.item (i-1) s Q E (by omega) st.2 λv h' tk hp hs hb=>h v h' tk hp ⟨by omega,by rw[show i+1-1=i-1+1 by omega];exact hs⟩ hb
 done:=λs Q E st h=>D.done s Q E (by simpa using st.2) h
theorem ZhQ {M:Model}{A:Around}{E:Value->Shared->Prop}{s:Shared}{env:Env}{pos:Pos}{T:String}{e:Expr}{rest:List Expr}{kws:List Keyword}{Q:Value->Shared->Prop}
  (h:wpAny M A (spliced (backTo pos (starEach (e::rest) env))) (λvs s1=>wpAny M A (evalAll ((backToKw pos (keywordEach kws env)).map (·.2))) (λkvs s2=>wpAny M A (call (.type T) vs (((backToKw pos (keywordEach kws env)).filterMap (·.1)).zip kvs)) Q E s2) E s1) E s)
  (he:backTo pos (starEach (e::rest) env)=(false,eval e env)::backTo pos (starEach rest env):=by rfl)
  (hpl:(backTo pos (starEach (e::rest) env)).any (·.1)=false:=by rfl) (hall:(backToKw pos (keywordEach kws env)).all (·.1.isSome)=true:=by rfl)
  (hkw:(backToKw pos (keywordEach kws env)).any (·.1.isNone)=false:=by rfl):wpAny M A (callWith pos (.type T) [] (backTo pos (starEach (e::rest) env)) (backToKw pos (keywordEach kws env))) Q E s:=by
 unfold callWith
 have h1:wpAny M A (evalArgs (.type T) true (backTo pos (starEach (e::rest) env)) (backToKw pos (keywordEach kws env))) (λa s1=>wpAny M A (call (.type T) ([]++a.pos) a.kw) Q E s1) E s:=by
  rw[he]at h⊢
  exact evalArgs_kwB hall h
 refine Ya (wpAny_holding (YI h1 (λa s1 h2=>Ya (wpAny_standAt ?_)) λ_ _ x=>x))
 simp only[hpl,hkw,Bool.or_false]
 refine Ya (Ye ?_)
 exact Ya (YI h2 (λr s2 hr=>Ya (wpAny_holding (wpAny_point (Ye hr)))) λ_ _ x=>x)
noncomputable def IteS (K : Frag) (a : Addr) : It :=
  ⟨fun i H => ∃ xs x, SqL K H a xs ∧ xs[i]? = some x,
   fun i H v H' => ∃ p x, H p = none ∧ v = .ref p ∧ H' = upd H p (.tup [.int ((i : Int) + 1), x]) ∧ ∀ xs, SqL K H a xs → xs[i]? = some x,
   fun i H => ∃ xs, SqL K H a xs ∧ xs.length = i⟩
theorem ZlK {P:Program}{w:World}{K:Frag}{elts:List Expr} {x1}{pos:Pos}{a e it:Addr} (h1:e≠it) (h2:a≠e) (h3:a≠it) :
  Turn P w K (.Tuple elts x1 pos) (IteS K a) [e,it] e (λi h=>(∃old,IsEnum h e it ((i:Int)+1) old)/\h.IsListIter it a i) where
 mem:=by simp
 obj:=λi h st c hc=>by
  obtain⟨⟨old,q1⟩,⟨o4,q4,_,d4⟩⟩:=st
  simp at hc
  rcases hc with rfl|rfl
  ·exact⟨_,q1,λv z=>by cases z⟩
  ·exact⟨_,q4,λv z=>by rw[d4]at z;cases z⟩
 keep:=λi h h' st k=>by
  obtain⟨⟨old,q1⟩,q4⟩:=st
  exact⟨⟨old,k e (by simp) _ q1⟩,q4.at λo z=>k it (by simp) o z⟩
 item:=by
  intro X hP hw hK hc i pins s σ H E I hf st hg
  subst hP hw hK
  obtain⟨xs,x,qa,hx⟩:=hg
  obtain⟨is1,r1,p1,hz1⟩:=I.list qa
  obtain⟨u,hu,ru⟩:=r1.get hx
  have W:=WalksT.enumerateD (prog:=X.prog) (w:=X.w) (A:=X.A) (ZgD (Draws.list (A:=X.A.in1) (I.ok.hd hc) it a h3 is1.toArray)) e h1 (by simp;exact⟨h1,h2.symm⟩) (by simp)
  have hi:i<is1.toArray.size:=by
   have:=(Yr.mp hu).1
   simpa using this
  have st1:(∃old,IsEnum s.heap e it (((i+1:Nat)):Int) old):=by obtain⟨old,q⟩:=st.1;exact⟨old,by rw[show((i+1:Nat):Int)=(i:Int)+1 by omega];exact q⟩
  refine W.item (i+1) s _ E (by omega) ⟨st1,by omega,by simpa using st.2,p1.isList⟩ λT vals h' tk Pt hT hTup Mid keep=>⟨_,rfl,W.go elts x1 pos (i+1) T _ _ E Mid λh2' St2 keep2=>?_⟩
  obtain⟨t,y,hy,rfl⟩:=Pt
  have hyu:y=u:=by
   have:is1[i]?=some y:=by simpa using hy
   rw[hu]at this;exact(Yy this).symm
  subst hyu
  have nT:=W.apart (i+1) T h' Mid
  have hfr:H T=none:=I.hok.fresh hT
  have kk:∀b o,b∉[e,it]->s.heap.get? b=some o->h2'.get? b=some o:=λb o hb q=>keep2 b o hb (keep b o hb q)
  have nTe:∀c∈[e,it],c≠T:=λc hc z=>nT (z▸hc)
  have ei:((i:Int)+1)=(((i+1:Nat)):Int):=by omega
  refine⟨.ref T,_,Inv.Zjx (s:=s) (t':=tk) (o:=.tup [.int ((i:Int)+1),x]) I kk hf hT ?_,rfl,⟨T,x,hfr,rfl,rfl,λxs' q'=>?_⟩,⟨?_,by have:=St2.2.2.1;simpa using this⟩,λc hc=>?_⟩
  ·obtain⟨oT,q1,q2,n,q3⟩:=hTup
   exact⟨by show 2<=sizeLine;decide,[.int ((i:Int)+1) t,y],.cons ⟨t,rfl⟩ (.cons ru .nil),⟨oT,keep2 T oT nT q1,q2,n,by rw[ei];exact q3⟩⟩
  ·rw[I.Zcy q' qa];exact hx
  ·obtain⟨old,q⟩:=St2.1
   refine⟨old,?_⟩
   have e2:(((i+1:Nat):Int)+1)=((i+1+1:Nat):Int):=by omega
   rw[e2];exact q
  ·rw[Zh (nTe c hc)];exact(hf c hc).1
 done:=by
  intro X hP hw hK hc i pins s σ H E I hf st hg
  subst hP hw hK
  obtain⟨xs,qa,hx⟩:=hg
  obtain⟨is1,r1,p1,_⟩:=I.list qa
  have W:=WalksT.enumerateD (prog:=X.prog) (w:=X.w) (A:=X.A) (ZgD (Draws.list (A:=X.A.in1) (I.ok.hd hc) it a h3 is1.toArray)) e h1 (by simp;exact⟨h1,h2.symm⟩) (by simp)
  have hi:i=is1.toArray.size:=by
   have:=r1.length
   simp;omega
  refine W.done s _ E ?_ λh' tk keep=>⟨rfl,I.Zjq (t':=tk) (fp:=[e,it]) (λc o hc q=>keep c o hc q) hf⟩
  rw[<-hi]
  obtain⟨old,q⟩:=st.1
  exact⟨⟨old,by rw[show((i+1:Nat):Int)=(i:Int)+1 by omega];exact q⟩,by omega,by simpa using st.2,p1.isList⟩
 self:=λA i s Q E st h=>by
  obtain⟨⟨old,q⟩,_⟩:=st
  exact wpAny_pyIter_enum q h
noncomputable def iEnumS (K:Frag) (ta td:TA):TI:=fun σ H R=>ta σ H λvs H1=>td σ H1 λws H2=>∃a xs,vs=[.ref a]/\ws=[.int 1]/\SqL K H2 a xs/\R (IteS K a) H2
theorem ZoP {K:Frag}{elts:List Expr} {x1}{tp:Pos}{e1 e2:Expr}{ta td:TA}{p pos kp:Pos} (hK:X.K=K) (hg:Gl X "enumerate") (hm:X.mg "enumerate"=none) (ha:PA X [e1] ta) (hd:PK X [⟨some (Str.ofString "start"),e2,kp⟩] td)
  (hks:(backToKw pos (keywordEach [⟨some (Str.ofString "start"),e2,kp⟩] X.env)).filterMap (·.1)=[Str.ofString "start"]:=by rfl) (he:backTo pos (starEach [e1] X.env)=(false,eval e1 X.env)::backTo pos (starEach [] X.env):=by rfl)
  (hpl:(backTo pos (starEach [e1] X.env)).any (·.1)=false:=by rfl) (hall:(backToKw pos (keywordEach [⟨some (Str.ofString "start"),e2,kp⟩] X.env)).all (·.1.isSome)=true:=by rfl)
  (hnn:(backToKw pos (keywordEach [⟨some (Str.ofString "start"),e2,kp⟩] X.env)).any (·.1.isNone)=false:=by rfl) :
  PI X (.Tuple elts x1 tp) (.Call (.Name "enumerate" p) [e1] [⟨some (Str.ofString "start"),e2,kp⟩] pos) (iEnumS K ta td):=by
 subst hK
 intro pins s σ H R I h
 refine wpAny_Call_Name_kw (Zbc I hg hm ZeW ?_)
 refine ZhQ (thn (ha pos pins s σ H _ I h) λus s1 z=>?_) he hpl hall hnn
 obtain⟨vs,H1,I1,r1,q1⟩:=z
 refine thn (hd pos pins s1 σ H1 _ I1 q1) λws s2 z=>?_
 obtain⟨zs,H2,I2,r2,a,xs,rfl,rfl,qa,q⟩:=z
 obtain⟨u,rfl,ru⟩:=r1.one
 cases(show u=Value.ref a from ru)
 obtain⟨v,rfl,t,rfl⟩:=r2.one
 rw[hks]
 obtain⟨is1,rr1,p1,_⟩:=I2.list qa
 have l1:a<s2.heap.objs.size:=by obtain⟨o,e,_⟩:=p1.isList;exact Yj e
 have sm:∀b,s2.heap.objs.size<=b->FpOk X pins H2 b:=λb hb=>I2.Zjh hb (I2.hok.fresh hb)
 have n1:s2.heap.objs.size+1≠s2.heap.objs.size:=by show ¬ ((_:Nat)=_);omega
 have T:=ZlK (P:=X.prog) (w:=X.w) (K:=X.K) (elts:=elts) (x1:=x1) (pos:=tp) n1 (Yl (YL l1)) (Yl l1)
 have hsz:(s2.heap.push {cls:=.type "list_iterator",data:=.fields #[.ref a,.int 0 0]}).objs.size=s2.heap.objs.size+1:=Heap.size_push _ _
 have c1:IsEnum ((s2.heap.push {cls:=.type "list_iterator",data:=.fields #[.ref a,.int 0 0]}).push {cls:=.type "enumerate",data:=.fields #[.none,.bool false,.ref s2.heap.objs.size,rawInt 1,.none,.none]}) (s2.heap.objs.size+1) s2.heap.objs.size (((0:Nat):Int)+1) .none:=by
  show Heap.get? _ _=_
  rw[<-hsz];exact Yp _ rfl
 have c2:((s2.heap.push {cls:=.type "list_iterator",data:=.fields #[.ref a,.int 0 0]}).push {cls:=.type "enumerate",data:=.fields #[.none,.bool false,.ref s2.heap.objs.size,rawInt 1,.none,.none]}).IsListIter s2.heap.objs.size a 0:=⟨_,Yk _ (Yp _ rfl),rfl,rfl⟩
 refine ZlJ (t:=t) p1.isList ?_
 refine T.self _ 0 _ _ _ ⟨⟨_,c1⟩,c2⟩ ?_
 refine⟨_,[s2.heap.objs.size+1,s2.heap.objs.size],_,_,H2,rfl,I2.kept (t':=s2.toks) (λb o e=>Yk _ (Yk _ e)),T,⟨⟨_,c1⟩,c2⟩,λc hc=>?_,q⟩
 simp at hc
 rcases hc with rfl|rfl<;>exact sm _ (by omega)
end
noncomputable def CDivB (i j:Int):Prop:=0<j/\j.natAbs<2 ^ 1000
theorem ZoQ {X:Cx}:OpR X (binaryOp .FloorDiv) (rI CDivB λi j=>.int (i / j)):=opI λi j _ _ _ _ _ hc q=>by
 have h1:(0:Int)<j:=hc.1
 have h3:=hc.2
 refine floordiv_int (by omega) (by rw[Int.fdiv_eq_ediv_of_nonneg i (by omega)];exact q) (.inl (PyProof.noPylong_of_log2 ?_))
 have:j.natAbs.log2<1000:=(Nat.log2_lt (by omega)).mpr h3
 omega
noncomputable def prodF (g:Nat->Nat) (a:Nat):Nat->Nat
 |0=>1
 |c+1=>prodF g a c*g (a+c)
noncomputable def ZL:Nat->Nat
 |0=>1
 |n+1=>(n+1)*ZL n
theorem ZkH:∀n,0<ZL n
 |0=>by decide
 |n+1=>Nat.mul_pos (by omega) (ZkH n)
theorem ZdC (g:Nat->Nat) (a c:Nat):∀d,prodF g a (c+d)=prodF g a c*prodF g (a+c) d
 |0=>by simp[prodF]
 |d+1=>by
  show prodF g a (c+d)*g (a+(c+d))=prodF g a c*(prodF g (a+c) d*g (a+c+d))
  rw[ZdC g a c d,Nat.mul_assoc,Nat.add_assoc]
theorem Zgc {g:Nat->Nat} (a:Nat):∀c,(∀i,i<c->0<g (a+i))->0<prodF g a c
 |0,_=>Nat.one_pos
 |c+1,h=>Nat.mul_pos (Zgc a c λi hi=>h i (by omega)) (h c (by omega))
theorem ZkI {g:Nat->Nat} (a b:Nat):∀c,(∀i,i<c->g (a+i)<=b)->prodF g a c<=b ^ c
 |0,_=>by simp[prodF]
 |c+1,h=>by
  rw[Nat.pow_succ]
  exact Nat.mul_le_mul (ZkI a b c λi hi=>h i (by omega)) (h c (by omega))
theorem Zi3 {g k:Nat->Nat} (a:Nat):∀c,(∀i,i<c->g (a+i)=k (a+i))->prodF g a c=prodF k a c
 |0,_=>rfl
 |c+1,h=>by
  show prodF g a c*g (a+c)=prodF k a c*k (a+c)
  rw[Zi3 a c λi hi=>h i (by omega),h c (by omega)]
noncomputable def chN:Nat->Nat->Nat
 |0,_=>1
 |_+1,0=>1
 |p+1,q+1=>chN p (q+1)+chN (p+1) q
theorem ZqH:∀m p q,p+q=m->chN p q*(ZL p*ZL q)=ZL (p+q):=by
 intro m
 induction m with
 |zero =>
  intro p q h
  obtain⟨rfl,rfl⟩:p=0/\q=0:=by omega
  simp[chN,ZL]
 |succ m ih =>
  intro p q h
  match p,q with
  |0,q=>simp[chN,ZL]
  |p+1,0=>simp[chN,ZL]
  |p+1,q+1 =>
   have h1:=ih p (q+1) (by omega)
   have h2:=ih (p+1) q (by omega)
   have e1:p+(q+1)=p+q+1:=by omega
   have e2:p+1+q=p+q+1:=by omega
   rw[e1]at h1;rw[e2]at h2
   have e3:p+1+(q+1)=p+q+1+1:=by omega
   rw[e3]
   rw[chN,show ZL (p+1)=(p+1)*ZL p from rfl,show ZL (q+1)=(q+1)*ZL q from rfl,show ZL (p+q+1+1)=(p+q+1+1)*ZL (p+q+1)from rfl]
   have a1:chN p (q+1)*((p+1)*ZL p*((q+1)*ZL q))=(p+1)*ZL (p+q+1):=by
    rw[<-h1,show ZL (q+1)=(q+1)*ZL q from rfl];ac_rfl
   have a2:chN (p+1) q*((p+1)*ZL p*((q+1)*ZL q))=(q+1)*ZL (p+q+1):=by
    rw[<-h2,show ZL (p+1)=(p+1)*ZL p from rfl];ac_rfl
   rw[Nat.add_mul,a1,a2,<-Nat.add_mul,e3]
noncomputable def ZI (f:Nat->Int) (p:Nat):Nat:=((p:Int)-Zax f p-1).toNat
noncomputable def ZY (f:Nat->Int) (n p:Nat):Nat:=(ZaB f n p-p-1).toNat
noncomputable def szN (f:Nat->Int) (n p:Nat):Nat:=ZI f p+ZY f n p+1
section
variable {ns T:List Int}
theorem ZR (hT:Zi ns T) {p:Nat} (hp:p<ns.length):(ZI (nth ns) p:Int)=p-Zax (nth ns) p-1/\(ZY (nth ns) ns.length p:Int)=ZaB (nth ns) ns.length p-p-1/\ZI (nth ns) p<=p/\p+ZY (nth ns) ns.length p<ns.length:=by
 unfold ZI ZY
 obtain⟨h1,h2⟩:=Z5 (hT.2 p hp)
 rcases h1 with h1|⟨q,h1⟩<;>rcases h2 with h2|⟨r,h2⟩
 ·rw[Zaj h1,Zac h2];omega
 ·rw[Zaj h1,ZH h2];have:=h2.1;have:=h2.2.1;omega
 ·rw[ZG h1,Zac h2];have:=h1.1;omega
 ·rw[ZG h1,ZH h2];have:=h1.1;have:=h2.1;have:=h2.2.1;omega
theorem ZdD (hT:Zi ns T) {q e:Nat} (hq:q<ns.length) (h:nth T q=e) (hl:q<e):e<ns.length/\Zax (nth ns) q=Zax (nth ns) e/\ZaB (nth ns) ns.length q=e/\(∀s,q<s->s<e->nth ns q<=nth ns s)/\∀s:Nat,Zax (nth ns) e<s->s<q->nth ns q<nth ns s:=by
 have hE:=hT.2 q hq
 rw[show T.getD q 0=e from h]at hE
 rcases hE with⟨_,_,z⟩|⟨x,h1,_,z⟩|⟨r,h1,h2,z⟩|⟨x,r,h1,h2,z⟩
 ·omega
 ·have:=h1.1;omega
 ·obtain rfl:e=r:=by omega
  have hN:ZaP (nth ns) e:=λr' r1=>by
   have:=h2.2.2.1
   by_cases z1:r'<q
   ·have:=h1 r' z1;omega
   ·by_cases z2:r'=q
    ·subst z2;omega
    ·have:=h2.2.2.2 r' (by omega) r1;omega
  exact⟨h2.2.1,by rw[Zaj h1,Zaj hN],ZH h2,h2.2.2.2,λs _ s2=>h1 s s2⟩
 ·by_cases c:nth ns x<=nth ns r
  ·rw[Yc c]at z
   obtain rfl:e=r:=by omega
   have hP:ZU (nth ns) e x:=⟨by have:=h1.1;omega,c,λr' r1 r2=>by
    have:=h2.2.2.1
    by_cases z1:r'<q
    ·have:=h1.2.2 r' r1 z1;omega
    ·by_cases z2:r'=q
     ·subst z2;omega
     ·have:=h2.2.2.2 r' (by omega) r2;omega⟩
   refine⟨h2.2.1,by rw[ZG h1,ZG hP],ZH h2,h2.2.2.2,λs s1 s2=>h1.2.2 s ?_ s2⟩
   rw[ZG hP]at s1;omega
  ·rw[Yb c]at z
   have:=h1.1;omega
theorem ZbO (hT:Zi ns T) {q e:Nat} (hq:q<ns.length) (h:nth T q=e) (hl:e<q):Zax (nth ns) q=e/\ZaB (nth ns) ns.length q=ZaB (nth ns) ns.length e/\(∀s,e<s->s<q->nth ns q<nth ns s)/\∀s:Nat,q<s->s<ZaB (nth ns) ns.length e->nth ns q<=nth ns s:=by
 have hE:=hT.2 q hq
 rw[show T.getD q 0=e from h]at hE
 rcases hE with⟨_,_,z⟩|⟨x,h1,h2,z⟩|⟨r,h1,h2,z⟩|⟨x,r,h1,h2,z⟩
 ·omega
 ·obtain rfl:e=x:=by omega
  have hN:Zaw (nth ns) ns.length e:=λr r1 r2=>by
   have:=h1.2.1
   by_cases z1:r<q
   ·have:=h1.2.2 r r1 z1;omega
   ·by_cases z2:r=q
    ·subst z2;omega
    ·have:=h2 r (by omega) r2;omega
  exact⟨ZG h1,by rw[Zac h2,Zac hN],h1.2.2,λs s1 s2=>h2 s s1 (by rw[Zac hN]at s2;omega)⟩
 ·have:=h2.1;omega
 ·by_cases c:nth ns x<=nth ns r
  ·rw[Yc c]at z
   have:=h2.1;omega
  ·rw[Yb c]at z
   obtain rfl:e=x:=by omega
   have hP:ZO (nth ns) ns.length e r:=⟨by have:=h2.1;omega,h2.2.1,by omega,λs s1 s2=>by
    have:=h1.2.1
    by_cases z1:s<q
    ·have:=h1.2.2 s s1 z1;omega
    ·by_cases z2:s=q
     ·subst z2;omega
     ·have:=h2.2.2.2 s (by omega) s2;omega⟩
   exact⟨ZG h1,by rw[ZH h2,ZH hP],h1.2.2,λs s1 s2=>h2.2.2.2 s s1 (by rw[ZH hP]at s2;omega)⟩
theorem ZoR (hT:Zi ns T) {q p e:Nat} (hq:q<ns.length) (hp:p<ns.length) (h:nth T q=e) (k:nth T p=e) (h1:q<e) (k1:p<e):q=p:=by
 obtain⟨he,a1,a2,a3,a4⟩:=ZdD hT hq h h1
 obtain⟨_,b1,b2,b3,b4⟩:=ZdD hT hp k k1
 have c1:=(ZR hT hq)
 have c2:=(ZR hT hp)
 rcases Nat.lt_trichotomy q p with z|z|z
 ·have x:=a3 p z k1
  have y:=b4 q (by rw[<-a1];omega) z
  omega
 ·exact z
 ·have x:=b3 q z h1
  have y:=a4 p (by rw[<-b1];omega) z
  omega
theorem Znq (hT:Zi ns T) {q p e:Nat} (hq:q<ns.length) (hp:p<ns.length) (h:nth T q=e) (k:nth T p=e) (h1:e<q) (k1:e<p):q=p:=by
 obtain⟨a1,a2,a3,a4⟩:=ZbO hT hq h h1
 obtain⟨b1,b2,b3,b4⟩:=ZbO hT hp k k1
 have c1:=(ZR hT hq)
 have c2:=(ZR hT hp)
 rcases Nat.lt_trichotomy q p with z|z|z
 ·have x:=a4 p z (by rw[<-b2];omega)
  have y:=b3 q h1 z
  omega
 ·exact z
 ·have x:=b4 q z (by rw[<-a2];omega)
  have y:=a3 p k1 z
  omega
theorem ZkJ (hT:Zi ns T) {p:Nat} (hp:p<ns.length) (h:0<ZI (nth ns) p):∃q,q<p/\nth T q=p:=by
 obtain⟨c1,_,c3,_⟩:=ZR hT hp
 obtain⟨h1,_⟩:=Z5 (hT.2 p hp)
 generalize hs:ZI (nth ns) p=s at *
 have hL:=Zmr (nth ns) (p-s) (s-1)
 generalize ZmY (nth ns) (p-s) (s-1)=q at hL
 obtain⟨l1,l2,l3,l4⟩:=hL
 have hqp:q<p:=by omega
 have big:∀r,p-s<=r->r<p->nth ns p<nth ns r:=λr r1 r2=>by
  rcases h1 with h1|⟨x,h1⟩
  ·exact h1 r r2
  ·rw[ZG h1]at c1;exact h1.2.2 r (by omega) r2
 have hN:ZO (nth ns) ns.length q p:=⟨hqp,hp,big q l1 hqp,λr r1 r2=>l4 r r1 (by omega)⟩
 refine⟨q,hqp,?_⟩
 refine Zy.unique (hT.2 q (by omega)) ?_
 rcases h1 with h1|⟨x,h1⟩
 ·rw[Zaj h1]at c1
  exact .inr (.inr (.inl ⟨p,λr r1=>l3 r (by omega) r1,hN,rfl⟩))
 ·have hx:=c1
  rw[ZG h1]at hx
  refine .inr (.inr (.inr ⟨x,p,⟨by omega,?_,λr r1 r2=>l3 r (by omega) r2⟩,hN,by rw[Yc h1.2.1]⟩))
  have:=h1.2.1;have:=big q l1 hqp;omega
theorem Zi4 (hT:Zi ns T) {p:Nat} (hp:p<ns.length) (h:0<ZY (nth ns) ns.length p):∃q,p<q/\q<ns.length/\nth T q=p:=by
 obtain⟨_,c1,_,c3⟩:=ZR hT hp
 obtain⟨_,h1⟩:=Z5 (hT.2 p hp)
 generalize hs:ZY (nth ns) ns.length p=s at *
 have hL:=Zmr (nth ns) (p+1) (s-1)
 generalize ZmY (nth ns) (p+1) (s-1)=q at hL
 obtain⟨l1,l2,l3,l4⟩:=hL
 have hqp:p<q:=by omega
 have big:∀r,p<r->r<=p+s->nth ns p<=nth ns r:=λr r1 r2=>by
  rcases h1 with h1|⟨x,h1⟩
  ·exact h1 r r1 (by omega)
  ·rw[ZH h1]at c1;exact h1.2.2.2 r r1 (by omega)
 have hN:ZU (nth ns) q p:=⟨hqp,big q hqp (by omega),λr r1 r2=>l3 r (by omega) r2⟩
 refine⟨q,hqp,by omega,?_⟩
 refine Zy.unique (hT.2 q (by omega)) ?_
 rcases h1 with h1|⟨x,h1⟩
 ·rw[Zac h1]at c1
  exact .inr (.inl ⟨p,hN,λr r1 r2=>l4 r r1 (by omega),rfl⟩)
 ·have hx:=c1
  rw[ZH h1]at hx
  have g:=h1.2.2.1
  refine .inr (.inr (.inr ⟨p,x,hN,⟨by omega,h1.2.1,?_,λr r1 r2=>l4 r r1 (by omega)⟩,by rw[Yb (by omega)]⟩))
  have:=big q hqp (by omega);omega
end
noncomputable def ZkK (m:Nat) (row:List Int) (i:Nat):List Int:=row.take i++[(m:Int)]++row.drop i
noncomputable def ZbX:Nat->List (List Int)
 |0=>[[]]
 |m+1=>(ZbX m).flatMap λrow=>(List.range (m+1)).map λi=>ZkK m row i
theorem ZcE:∀m,∀r∈ZbX m,r.length=m
 |0,r,h=>by simp[ZbX]at h;simp[h]
 |m+1,r,h=>by
  simp only[ZbX,List.mem_flatMap,YG,YC]at h
  obtain⟨x,h1,i,h2,rfl⟩:=h
  have:=ZcE m x h1
  simp[ZkK];omega
noncomputable def prC (f:Nat->Int) (p:Nat):Nat->Int
 |0=>-1
 |q+1=>if f q<=f p then (q:Int)else prC f p q
noncomputable def nxC (f:Nat->Int) (n p:Nat):Nat->Int
 |0=>n
 |c+1=>if f (n-(c+1))<f p then ((n-(c+1):Nat):Int)else nxC f n p c
theorem ZoS (f:Nat->Int) (p:Nat):∀q,q<=p->(∀r,q<=r->r<p->f p<f r)->Zax f p=prC f p q
 |0,_,h=>Zaj λr hr=>h r (by omega) hr
 |q+1,hq,h=>by
  unfold prC
  by_cases c:f q<=f p
  ·rw[Yc c];exact ZG ⟨by omega,c,λr r1 r2=>h r (by omega) r2⟩
  ·rw[Yb c]
   exact ZoS f p q (by omega) λr r1 r2=>by
    by_cases e:r=q
    ·subst e;omega
    ·exact h r (by omega) r2
theorem ZoT (f:Nat->Int) (n p:Nat):∀c,c+p<n->(∀r,p<r->r<n-c->f p<=f r)->ZaB f n p=nxC f n p c
 |0,_,h=>Zac λr r1 r2=>h r r1 (by omega)
 |c+1,hq,h=>by
  unfold nxC
  by_cases z:f (n-(c+1))<f p
  ·rw[Yc z];exact ZH ⟨by omega,by omega,z,λr r1 r2=>h r r1 (by omega)⟩
  ·rw[Yb z]
   exact ZoT f n p c (by omega) λr r1 r2=>by
    by_cases e:r=n-(c+1)
    ·subst e;omega
    ·exact h r r1 (by omega)
noncomputable def elC (f:Nat->Int) (n p:Nat):Int :=
 let a:=prC f p p
 let b:=nxC f n p (n-(p+1))
 if a<0 then (if b<n then b else -1)else if b<n then (if f a.toNat<=f b.toNat then b else a)else a
noncomputable def szC (f:Nat->Int) (n p:Nat):Nat:=(nxC f n p (n-(p+1))-prC f p p-1).toNat
noncomputable def Zaz (r:List Int):List Int:=(List.range r.length).map (elC (nth r) r.length)
theorem ZmB (f:Nat->Int) {n p:Nat} (hp:p<n):ZaB f n p=nxC f n p (n-(p+1)):=ZoT f n p _ (by omega) λr r1 r2=>by omega
theorem ZmC (f:Nat->Int) (p:Nat):Zax f p=prC f p p:=ZoS f p p (Yd _) λr r1 r2=>by omega
theorem ZkL (f:Nat->Int) {n p:Nat} (hp:p<n):∃e,Zy f n p e:=⟨_,ZgA hp⟩
theorem elC_is (f:Nat->Int) {n p:Nat} (hp:p<n):Zy f n p (elC f n p):=by
 unfold elC
 rw[<-ZmB f hp,<-ZmC f p]
 obtain⟨e,he⟩:=ZkL f hp
 obtain⟨h1,h2⟩:=Z5 he
 rcases h1 with h1|⟨q,h1⟩<;>rcases h2 with h2|⟨r,h2⟩
 ·rw[Zaj h1,Zac h2];exact .inl ⟨h1,h2,by simp⟩
 ·rw[Zaj h1,ZH h2]
  have:=h2.2.1
  exact .inr (.inr (.inl ⟨r,h1,h2,by dsimp only;rw[Yc (by omega),Yc (by omega)]⟩))
 ·rw[ZG h1,Zac h2];exact .inr (.inl ⟨q,h1,h2,by dsimp only;rw[Yb (by omega),Yb (by omega)]⟩)
 ·rw[ZG h1,ZH h2]
  have:=h2.2.1
  exact .inr (.inr (.inr ⟨q,r,h1,h2,by dsimp only;rw[Yb (by omega),Yc (by omega)];simp⟩))
theorem ZbS (r:List Int):Zi r (Zaz r):=⟨by simp[Zaz],λp hp=>by
 have:(Zaz r).getD p 0=elC (nth r) r.length p:=by simp[Zaz,Yg,hp]
 rw[this];exact elC_is _ hp⟩
theorem szC_is {r:List Int}{p:Nat} (hp:p<r.length):szN (nth r) r.length p=szC (nth r) r.length p:=by
 have:=ZR (ZbS r) hp
 unfold szC szN
 rw[<-ZmB _ hp,<-ZmC]
 omega
noncomputable def Zgd (f g:Nat->Int) (n:Nat):Prop:=∀p q,p<q->q<n->(f p<=f q↔g p<=g q)
theorem Zgd.prev {f g:Nat->Int}{n p q:Nat} (h:Zgd f g n) (hp:p<n) (k:ZU f p q):ZU g p q :=
 ⟨k.1,(h q p k.1 hp).mp k.2.1,λr r1 r2=>by have:=k.2.2 r r1 r2;have:=h r p r2 hp;omega⟩
theorem Zgd.ZjD {f g:Nat->Int}{n p:Nat} (h:Zgd f g n) (hp:p<n) (k:ZaP f p):ZaP g p:=λr r2=>by
 have:=k r r2;have:=h r p r2 hp;omega
theorem Zgd.next {f g:Nat->Int}{n p q:Nat} (h:Zgd f g n) (k:ZO f n p q):ZO g n p q :=
 ⟨k.1,k.2.1,by have:=k.2.2.1;have:=h p q k.1 k.2.1;omega,λs s1 s2=>(h p s s1 (by have:=k.2.1;omega)).mp (k.2.2.2 s s1 s2)⟩
theorem Zgd.ZjE {f g:Nat->Int}{n p:Nat} (h:Zgd f g n) (k:Zaw f n p):Zaw g n p:=λr r1 r2=>(h p r r1 r2).mp (k r r1 r2)
theorem Zgd.ZkM {f g:Nat->Int}{n p:Nat}{e:Int} (h:Zgd f g n) (hp:p<n) (k:Zy f n p e):Zy g n p e:=by
 rcases k with⟨k1,k2,z⟩|⟨q,k1,k2,z⟩|⟨r,k1,k2,z⟩|⟨q,r,k1,k2,z⟩
 ·exact .inl ⟨h.ZjD hp k1,h.ZjE k2,z⟩
 ·exact .inr (.inl ⟨q,h.prev hp k1,h.ZjE k2,z⟩)
 ·exact .inr (.inr (.inl ⟨r,h.ZjD hp k1,h.next k2,z⟩))
 ·refine .inr (.inr (.inr ⟨q,r,h.prev hp k1,h.next k2,?_⟩))
  have x:=h q r (by have:=k1.1;have:=k2.1;omega) k2.2.1
  by_cases c:f q<=f r
  ·rw[Yc c]at z;rw[Yc (x.mp c)];exact z
  ·rw[Yb c]at z;rw[Yb (λy=>c (x.mpr y))];exact z
theorem Zgd.sz {f g:Nat->Int}{n p:Nat} (h:Zgd f g n) (hp:p<n):szN f n p=szN g n p:=by
 obtain⟨e,he⟩:=ZkL f hp
 obtain⟨h1,h2⟩:=Z5 he
 unfold szN ZI ZY
 rcases h1 with h1|⟨q,h1⟩<;>rcases h2 with h2|⟨r,h2⟩
 ·rw[Zaj h1,Zac h2,Zaj (h.ZjD hp h1),Zac (h.ZjE h2)]
 ·rw[Zaj h1,ZH h2,Zaj (h.ZjD hp h1),ZH (h.next h2)]
 ·rw[ZG h1,Zac h2,ZG (h.prev hp h1),Zac (h.ZjE h2)]
 ·rw[ZG h1,ZH h2,ZG (h.prev hp h1),ZH (h.next h2)]
theorem ZhR (f:Nat->Int):∀n,∃g,g<=n/\(∀p,p<g->f p<=f g)/\∀p,g<p->p<=n->f p<f g
 |0=>⟨0,by omega,λp h=>by omega,λp h1 h2=>by omega⟩
 |n+1=>by
  obtain⟨g,g1,g2,g3⟩:=ZhR f n
  by_cases c:f g<=f (n+1)
  ·refine⟨n+1,by omega,λp hp=>?_,λp h1 h2=>by omega⟩
   rcases Nat.lt_trichotomy p g with z|z|z
   ·have:=g2 p z;omega
   ·rw[z];exact c
   ·have:=g3 p z (by omega);omega
  ·refine⟨g,by omega,g2,λp h1 h2=>?_⟩
   by_cases e:p=n+1
   ·rw[e];omega
   ·exact g3 p h1 (by omega)
theorem ZjF (m:Nat) (row:List Int) (i:Nat) (hi:i<=row.length) (p:Nat):nth (ZkK m row i) p=if p<i then nth row p else if p=i then (m:Int)else nth row (p-1):=by
 have hl:(row.take i).length=i:=by simp;omega
 unfold ZkK nth
 simp only[Yg]
 by_cases c:p<i
 ·rw[Yc c,YT,YS (by omega),List.getElem?_take_of_lt c]
 ·rw[Yb c,YT,YY (by omega),hl]
  by_cases e:p=i
  ·rw[Yc e,e];simp
  ·rw[Yb e,YY (by simp;omega),List.getElem?_drop]
   congr 2;simp;omega
theorem ZjG:∀m,∀r∈ZbX m,∀p,p<m->nth r p<m
 |0,r,h,p,hp=>by omega
 |m+1,r,h,p,hp=>by
  simp only[ZbX,List.mem_flatMap,YG,YC]at h
  obtain⟨x,h1,i,h2,rfl⟩:=h
  have hx:=ZcE m x h1
  rw[ZjF m x i (by omega)]
  split
  ·have:=ZjG m x h1 p (by omega);omega
  ·split
   ·omega
   ·have:=ZjG m x h1 (p-1) (by omega);omega
theorem ZhS:∀n (f:Nat->Int),∃r∈ZbX n,Zgd f (nth r) n
 |0,f=>⟨[],by simp[ZbX],λp q h1 h2=>by omega⟩
 |n+1,f=>by
  obtain⟨g,g1,g2,g3⟩:=ZhR f n
  obtain⟨r,hr,ho⟩:=ZhS n (λp=>if p<g then f p else f (p+1))
  have hl:=ZcE n r hr
  refine⟨ZkK n r g,?_,λp q h1 h2=>?_⟩
  ·simp only[ZbX,List.mem_flatMap,YG,YC]
   exact⟨r,hr,g,by omega,rfl⟩
  ·rw[ZjF n r g (by omega),ZjF n r g (by omega)]
   have sm:=ZjG n r hr
   by_cases c1:q<g
   ·have x:=ho p q h1 (by omega)
    dsimp only at x
    rw[Yc (by omega),Yc c1]at x
    rw[Yc (by omega),Yc c1];exact x
   ·by_cases c2:q=g
    ·have x:=g2 p (by omega)
     have y:=sm p (by omega)
     rw[Yc (by omega),Yb c1,Yc c2]
     subst c2
     exact⟨λ_=>by omega,λ_=>x⟩
    ·rw[Yb c1,Yb c2]
     by_cases c3:p<g
     ·rw[Yc c3]
      have x:=ho p (q-1) (by omega) (by omega)
      dsimp only at x
      rw[Yc c3,Yb (by omega),show q-1+1=q by omega]at x
      exact x
     ·rw[Yb c3]
      by_cases c4:p=g
      ·rw[Yc c4]
       have x:=g3 q (by omega) (by omega)
       have y:=sm (q-1) (by omega)
       subst c4
       exact⟨λz=>by omega,λz=>by omega⟩
      ·rw[Yb c4]
       have x:=ho (p-1) (q-1) (by omega) (by omega)
       dsimp only at x
       rw[Yb (by omega),Yb (by omega),show q-1+1=q by omega,show p-1+1=p by omega]at x
       exact x
noncomputable def cntOk (m:Nat):Bool:=let ts:=(ZbX m).map Zaz
 ((ZbX m).all λr=>let t:=Zaz r;Nat.beq ((ts.countP λu=>u==t)*prodF (szC (nth r) m) 0 m) (ZL m))
theorem Znr:∀m,m<6->cntOk m=true:=by decide +kernel
theorem ZkN {ns T:List Int} (hT:Zi ns T) (h:ns.length<=5):((ZbX ns.length).filter λr=>decide (Zaz r=T)).length=ZL ns.length / prodF (szN (nth ns) ns.length) 0 ns.length:=by
 obtain⟨r,hr,ho⟩:=ZhS ns.length (nth ns)
 have hl:=ZcE _ r hr
 have k:=Znr ns.length (by omega)
 unfold cntOk at k
 have k1:=List.all_eq_true.mp k r hr
 have k2:=Nat.eq_of_beq_eq_true k1
 have eT:Zaz r=T:=by
  refine Zi.unique (ZbS r) ⟨by rw[hT.1,hl],λp hp=>?_⟩
  rw[hl]at hp⊢
  exact ho.ZkM hp (hT.2 p hp)
 have eS:prodF (szN (nth ns) ns.length) 0 ns.length=prodF (szC (nth r) ns.length) 0 ns.length:=Zi3 0 _ λi hi=>by
  rw[ho.sz (by omega)]
  have:=szC_is (r:=r) (p:=0+i) (by omega)
  rw[hl]at this;exact this
 rw[eT,List.countP_map,<-eS]at k2
 have e3:((ZbX ns.length).filter λr=>decide (Zaz r=T)).length=(ZbX ns.length).countP ((λu=>u==T) ∘ Zaz):=by
  rw[List.countP_eq_length_filter]
  congr 1
  refine List.filter_congr λx _=>?_
  show decide (Zaz x=T)=(Zaz x==T)
  by_cases y:Zaz x=T<;>simp[y]
 rw[e3,<-k2,Nat.mul_div_cancel]
 exact Zgc 0 _ λi _=>by unfold szN;omega
theorem Zi5:∀{b a:Nat},a<=b->ZL a<=ZL b
 |0,a,h=>by
  obtain rfl:a=0:=by omega
  exact Yd _
 |b+1,a,h=>by
  by_cases e:a=b+1
  ·rw[e];exact Yd _
  ·exact Yf (Zi5 (b:=b) (by omega)) (Nat.le_mul_of_pos_left _ (by omega))
theorem mulNat {a b:Nat} (ha:a<2 ^ 400) (hb:b<2 ^ 400):IntMulOk (a:Int) (b:Int) :=
 Zeu (Yf ((intBits_le_iff (m:=400)).mpr ha) (by decide)) (Yf ((intBits_le_iff (m:=400)).mpr hb) (by decide))
theorem ZmD (f:Nat->Int) (n p:Nat):0<szN f n p:=by unfold szN;omega
theorem ZgE {ns T:List Int} (hT:Zi ns T) (h40:ns.length<=40):0<prodF (szN (nth ns) ns.length) 0 ns.length/\prodF (szN (nth ns) ns.length) 0 ns.length<2 ^ 1000:=by
 refine⟨Zgc 0 _ λi _=>ZmD _ _ _,?_⟩
 have h1:=ZkI (g:=szN (nth ns) ns.length) 0 40 ns.length λi hi=>by
  have cp:=ZR hT (p:=0+i) (by omega)
  unfold szN;omega
 have h2:40 ^ ns.length<=40 ^ 40:=Nat.pow_le_pow_right (by decide) h40
 have h3:40 ^ 40<2 ^ 1000:=by decide +kernel
 omega
end L2
namespace L2
open PySem PySem.Spec PyProof.Rows PySem.W PyProof
theorem Zis (l:Addr) (items:Array Value) (n:Nat) (dd:Option Addr) (sl:Array (Option Value)) (x:Value) (e:Value->Bool) (j:Nat) (hj:j<items.size)
  (hit:e items[j]=true) (hno:∀m (hm:m<items.size),m<j->e items[m]=false) :
  Meets (Builtin.«tuple.index» ⟨[.ref l,x],[]⟩)
   (λA R s=>s.heap.get? l=some {cls:=.type "tuple",dict:=dd,data:=.seq items n,slots:=sl}/\(∀y,y∈items->SeqAt.EqAt A.in1 s y x (e y))/\R (.ok (.ret (.int j s.toks))) {s with toks:=s.toks+1}) :=
 .of_wp λprog w A R s h=>by
  obtain⟨hp,g,d,tk,os⟩:=s;obtain⟨hl,he,h⟩:=h
  unfold Builtin.«tuple.index»
  simp only[Std.Legacy.Range.forIn_eq_forIn_range',Std.Legacy.Range.size,Nat.sub_zero,Nat.add_sub_cancel,Nat.div_one]
  wp_walk using wpAny_loadPart' hl,wpAny_forIn_list _ (λrest b s'=>b.1=none/\s'=⟨hp,g,d,tk,os⟩/\∃i,rest=List.range' i (items.size-i)/\i<=j) _
  case turn =>
   rintro y rest b s' ⟨hb,rfl,i,hr,hi⟩
   have hlt:i<items.size:=by omega
   obtain⟨rfl,hrest⟩:y=i/\rest=List.range' (i+1) (items.size-(i+1)):=by
    have e:items.size-i=(items.size-(i+1))+1:=by omega
    rw[e,List.range'_succ]at hr
    injection hr with h1 h2
    exact⟨h1,h2⟩
   rw[Array.getElem?_eq_getElem hlt]
   refine Ya (he items[y] (Array.getElem_mem hlt) prog w _ _ ?_)
   by_cases c:y=j
   ·subst c
    rw[hit]
    wp_walk
    exact⟨_,rfl,h⟩
   ·rw[hno y hlt (by omega)]
    wp_walk
    exact⟨rfl,rfl,y+1,hrest,by omega⟩
  case fin =>
   rintro⟨b1,b2⟩ s' ⟨hb,rfl,i,hr,hi⟩
   have e:items.size-i=(items.size-(i+1))+1:=by omega
   rw[e,List.range'_succ]at hr
   cases hr
  case h =>
   exact⟨rfl,rfl,0,by simp,Ym _⟩
section
variable {X:Cx}
noncomputable def rIndexT (K:Frag):V->List V->Hp->VK->Prop:=λx vs H Q=>∃(l:Addr) (ns:List Int) (k:Int),x=.ref l/\vs=[.int k]/\SqT K H l (ns.map V.int)/\k∈ns/\Q (.int (ns.idxOf k:Nat)) H
theorem Zns {K:Frag} (hK:X.K=K):MtM X "tuple.index" (rIndexT K):=by
 subst hK
 intro pins s σ H x vs v us Q I rx rv h
 obtain⟨l,ns,k,rfl,rfl,hH,hk,q⟩:=h
 cases rx
 obtain⟨u,rfl,ru⟩:=rv.one
 obtain⟨t,rfl⟩:=ru
 obtain⟨its,r,pl⟩:=I.tuple hH
 have hi:IntsAre its ns:=intsAre_of r
 have hlen:=r.length
 rw[Yi]at hlen
 obtain⟨⟨cls,dd,data,sl⟩,ho,hc,n,hd⟩:=pl.1
 simp only at hc hd
 subst hc hd
 have hj:ns.idxOf k<ns.length:=List.idxOf_lt_length_iff.mpr hk
 refine call_meets F.slot_tuple_index ⟨_,ho,rfl⟩ F.entry_tuple_index (F.args_tuple_index_2 _ _)
  (Zis l its.toArray n dd sl (.int k t) (isInt k) (ns.idxOf k) (by rw[Yt];omega) ?_ ?_) ⟨ho,λy hy=>(eq_isInt k t hi y (by simpa using hy)).at _ _,⟨.int _,H,I.tok _,⟨_,rfl⟩,q⟩⟩
 ·show isInt k its[ns.idxOf k]=true
  rw[isInt_at k hi _ (by omega) hj]
  simpa using List.getElem_idxOf hj
 ·intro j hjs hlt
  show isInt k its[j]=false
  rw[isInt_at k hi j (by simpa using hjs) (by omega)]
  exact ne_of_lt_idxOf hlt _
end
noncomputable def ZeY (H:Hp) (t:Addr) (ys:List V):Prop:=∃ob:Obj,ob.dict=none/\H t=some (.frz ob (.tup ys))
theorem ZeY.same {H H':Hp}{t:Addr}{ys:List V} (h:ZeY H t ys) (s:Zf H H'):ZeY H' t ys:=let ⟨ob,d,e⟩:=h;⟨ob,d,s _ _ e⟩
theorem ZeY.sq {K:Frag}{H:Hp}{t:Addr}{ys:List V} (h:ZeY H t ys):SqT K H t ys:=let ⟨ob,_,e⟩:=h;.inl (.inr ⟨ob,e⟩)
section
variable {X:Cx}
noncomputable def rTofF (K:Frag):List V->Hp->VK->Prop:=λxs H Q=>∃p ys,xs=[.ref p]/\SqL K H p ys/\∀l H',H l=none->Zf H H'->ZeY H' l ys->Q (.ref l) H'
theorem Zi6 {K:Frag} (hK:X.K=K):Zbl X (.type "tuple") (rTofF K):=by
 subst hK
 intro pins s σ H xs us Q I r h
 obtain⟨p,ys,rfl,hq,q⟩:=h
 obtain⟨u,rfl,rx⟩:=vals1 r
 cases rx
 obtain⟨its,r',pl,hz⟩:=I.list hq
 have hlen:=r'.length
 refine call_tuple_list pl.isList (λh' kp=>?_) (by simp only[Yt]<;>omega)
 have I1:Inv X pins σ H {s with heap:=h'}:=I.kept (t':=s.toks) kp
 have hn:=I1.hok.fresh (Yd h'.objs.size)
 have I2:Inv X pins σ (upd H h'.objs.size (.frz {cls:=.type "tuple",data:=.seq its.toArray} (.tup ys))) {s with heap:=h'.push {cls:=.type "tuple",data:=.seq its.toArray}} :=
  I1.laid (t':=s.toks) (λb o e=>Yk _ e) (Yd _) (show ZW X.prog X.w _ _ _ (.frz _ (.tup ys))from⟨Yp _ rfl,hz,its,r',IsTup.new _ _⟩)
 exact⟨.ref h'.objs.size,_,I2,rfl,q _ _ hn ((Zf.refl H).upd hn) ⟨_,rfl,Zb⟩⟩
noncomputable def tBMH (r:V->List V->Hp->VK->Prop) (to:TE) (t:TA):TE:=fun σ H Q=>to σ H λx H1=>(∃p xs,x=.ref p/\ZeY H1 p xs)/\t σ H1 λxs H2=>r x xs H2 Q
variable {o e:Expr}{es:List Expr}{to:TE}{t:TA}{name:Str}{apos cpos:Pos}{id:String}{r:V->List V->Hp->VK->Prop}
theorem pe_bmH (slot:Slot "tuple" name id) (hty:typeOf (.builtin id)=pure (.type "method_descriptor")) (hm:MtM X id r) (ho:PE X o to) (ha:PA X (e::es) t)
  (hbase:attributeBase o name X.env (eval o X.env)=eval o X.env:=by rfl)
  (hfew:((backTo cpos (starEach (e::es) X.env)).all (λx=>!x.1)&&(backToKw cpos (keywordEach [] X.env)).all (λx=>x.1.isSome)
   && decide ((e::es).length+([]:List Keyword).length+(if ([]:List Keyword).isEmpty then 0 else 1)<30))=true:=by rfl)
  (hline:(apos.endLine==cpos.line)=true:=by rfl) (hs:starEach (e::es) X.env=(false,eval e X.env)::starEach es X.env:=by rfl) (hplain:(backTo cpos (starEach es X.env)).any (·.1)=false:=by rfl) :
  PE X (.Call (.Attribute o name apos) (e::es) [] cpos) (tBMH r to t):=by
 intro pins s σ H Q I h
 refine wpAny_Call_method_late hbase hfew hline rfl (thn (ho pins s σ H _ I h) λv s1 ⟨x,H1,I1,r1,⟨p,xs,ex,ob,hd,hp⟩,q1⟩=>?_)
 subst ex
 cases r1
 obtain⟨e1,_,its,_,ob2,e2,e3,_⟩:=(show ZW X.prog X.w H1 s1.heap p (.frz ob (.tup xs))from I1.hok p _ hp)
 rw[e1]at e2
 cases e2
 refine⟨"tuple",id,PySem.F.plainAttrs_tuple,slot,hty,⟨ob,e1,e3⟩,(λa z=>by cases z;exact⟨ob,e1,hd⟩),?_⟩
 have hA:=ha cpos pins s1 σ H1 _ I1 q1
 rw[hs]at hA⊢
 refine Calls.callWith_builtin (by show(false||(backTo cpos (starEach es X.env)).any (·.1))=false;rw[hplain]<;>rfl) (Calls.evalArgs_plain ?_)
 exact thn hA λus s2 ⟨vs,H2,I2,r2,q2⟩=>hm pins s2 σ H2 (.ref p) vs (.ref p) us Q I2 rfl r2 q2
end
section
variable {X:Cx}
noncomputable def rIsiS (K:Frag):List V->Hp->VK->Prop:=λxs H Q=>∃p ys v,xs=[.ref p,v]/\cOf v=some (.type "tuple")/\SqT K H p ys/\Q (.bl true) H
theorem Znt {K:Frag} (hK:X.K=K):Zbl X (.builtin "isinstance") (rIsiS K):=by
 subst hK
 intro pins s σ H xs us Q I r h
 obtain⟨p,ys,v,rfl,hc,ht,q⟩:=h
 obtain⟨u,u2,rfl,ru,ru2⟩:=r.two
 have e2:u2=.type "tuple":=by
  cases v with
  |ref a=>cases hc
  |ty n=>have:=(show u2=Value.type n from ru2);cases hc;exact this
  |_=>cases hc
 subst e2
 cases(show u=Value.ref p from ru)
 obtain⟨its,_,⟨o,h1,h2,_⟩,_⟩:=I.tuple ht
 exact kia_one kitx_tuple I.kIn ⟨o,h1,h2⟩ (show kitOne X.K (.type "tuple") (.type "tuple")=some true by with_unfolding_all rfl) (λz=>nomatch z) λtk=>⟨.bl true,H,I.tok tk,rfl,q⟩
end
noncomputable abbrev KO:=Option Int
noncomputable def koIs:KO->Value->Bool
 |some k,v=>Value.isInt k v
 |none,.none=>true
 |none,_=>false
noncomputable def koH:KO->Int
 |some k=>hashInt k
 |none=>0xFCA86420
theorem Zak:∀{k:KO}{v:Value},koIs k v=true->(∃i t,k=some i/\v=Value.int i t)\/(k=none/\v=Value.none)
 |some i,v,h=>by
  obtain⟨t,e⟩:=Value.isInt_shape (k:=i) (v:=v) h
  exact .inl ⟨i,t,rfl,e⟩
 |none,v,h=>by
  cases v<;>first|exact .inr ⟨rfl,rfl⟩|exact absurd h (by simp[koIs])
theorem ZoU (i:Int) (t:Tok):koIs (some i) (.int i t)=true:=by simp[koIs,Value.isInt]
theorem Znu {prog:Program}{w:World}{A:Around}{E:Value->Shared->Prop}{s:Shared}{Q:Int->Shared->Prop} (h:Q 0xFCA86420 {s with toks:=s.toks+1}):wpAny (model prog w) A (pyHash .none) Q E s:=by
 unfold pyHash
 have hv:[Value.none].any Value.onHeap=false:=rfl
 refine Ya ?_
 rw[cRoomFor,Yb (by rw[hv];exact Yw)];refine Ye ?_
 refine Ya (wpAny_specialOf (typeIs_none s) PySem.F.slot_NoneType_hash.lookup ?_)
 show wpAny _ _ (if (some (Value.builtin "NoneType.__hash__")==some Value.none)=true then _ else _) Q E s
 rw[Yb (by rw[beq_builtin_none];exact Yw)]
 refine Ya (wpAny_specialOf (typeIs_none s) PySem.F.slot_NoneType_hash.lookup ?_)
 show wpAny _ _ (callSpecialIfBoundUnlessNone? .none "__hash__" _ >>= _) Q E s
 refine Ya (wpAny_callSpecialIfBoundUnlessNone?_slot (typeIs_none s) PySem.F.slot_NoneType_hash
  (wpAny_call_entry PySem.F.slot_NoneType_hash (typeIs_none s) PySem.F.entry_NoneType_hash
   (show wpAny _ _ (do ret (<-mkInt 0xFCA86420)) _ _ s from wpAny_ret_mkInt ?_) (PySem.F.args_NoneType_hash_1 _)))
 exact Ye h
noncomputable def optKind (prog:Program) (w:World):PySem.KeyKind prog w KO where
 is:=koIs
 hash:=koH
 inj:=λv a b ha hb=>by
  rcases Zak ha with⟨i,t,rfl,rfl⟩|⟨rfl,rfl⟩
  ·rcases Zak hb with⟨j,u,rfl,e⟩|⟨rfl,e⟩
   ·injection e with e1 _;rw[e1]
   ·exact nomatch e
  ·rcases Zak hb with⟨j,u,rfl,e⟩|⟨rfl,e⟩
   ·exact nomatch e
   ·rfl
 byValue:=λk v h=>by
  rcases Zak h with⟨i,t,rfl,rfl⟩|⟨rfl,rfl⟩<;>rfl
 pyHash:=λhv h=>by
  rcases Zak hv with⟨i,t,rfl,rfl⟩|⟨rfl,rfl⟩
  ·exact wpAny_pyHash_int h
  ·exact Znu h
 eqBool:=λ{A E s a b u v Q} hu hv h=>by
  rcases Zak hu with⟨i,t,rfl,rfl⟩|⟨rfl,rfl⟩
  ·rcases Zak hv with⟨j,u,rfl,rfl⟩|⟨rfl,rfl⟩
   ·rw[show decide ((some i:KO)=some j)=(i==j) by by_cases e:i=j<;>simp[e]]at h
    exact wpAny_eqBool_int h
   ·exact SeqAt.EqAt.int_none i t _ _ _ _ h
  ·rcases Zak hv with⟨j,u,rfl,rfl⟩|⟨rfl,rfl⟩
   ·exact SeqAt.EqAt.none_int j u _ _ _ _ h
   ·exact SeqAt.EqAt.same .none _ _ _ _ h
 «strs»:=λk x t v h=>by
  rcases Zak h with⟨i,u,rfl,e⟩|⟨rfl,e⟩<;>exact nomatch e
noncomputable def oV:KO->V
 |some i=>.int i
 |none=>.non
theorem ZoV {P:Program}{w:World}{k:KO}{u:Value} (r:RelV (oV k) u):(optKind P w).is k u=true:=by
 cases k with
 |some i=>obtain⟨t,e⟩:=(show ∃t,u=Value.int i t from r);subst e;exact ZoU i t
 |none=>cases(show u=Value.none from r);rfl
theorem pairsO {P P':Program}{w w':World}{es:List DictEntry}{kvs:List (KO×Value)} (h:Pairs (optKind P w) es kvs):Pairs (optKind P' w') es kvs:=by
 induction h with
 |nil=>exact .nil
 |cons a b _ ih=>exact .cons a b ih
theorem dictO {P P':Program}{w w':World}{h:Heap}{a:Addr}{kvs:List (KO×Value)} (d:h.DictOf (optKind P w) a kvs):h.DictOf (optKind P' w') a kvs:=by
 obtain⟨o,es,ep,h1,h2,h3,h4,h5,h6⟩:=d
 exact⟨o,es,ep,h1,h2,h3,h4,pairsO h5,h6⟩
noncomputable def Zdn (a:Addr) (kvs:List (KO×V)):Heap->Prop:=λh=>kvs.length<=sizeLine/\(a==sysModules)=false/\∃vs,KV kvs vs/\∀(P:Program) (w:World),h.DictOf (optKind P w) a vs
theorem ZjH {P:Program}{w:World}{H:Hp}{h:Heap}{a:Addr}{kvs:List (KO×V)}{vs:List (KO×Value)} (z:kvs.length<=sizeLine) (hd:(a==sysModules)=false) (rel:KV kvs vs) (dd:h.DictOf (optKind P w) a vs):ZW P w H h a (.ext (Zdn a kvs)):=by
 refine⟨⟨z,hd,vs,rel,λ_ _=>dictO dd⟩,?_,λh1 h2 p k=>?_⟩
 ·obtain⟨o,_,_,e,_⟩:=dd
  exact⟨o,e⟩
 ·obtain⟨a1,a2,vs,a3,a4⟩:=p
  refine⟨a1,a2,vs,a3,λP w=>?_⟩
  obtain⟨o,es,ep,e,r⟩:=a4 P w
  exact⟨o,es,ep,k o e,r⟩
section
variable {X:Cx}{pins:List (Addr×Obj)}{σ:St}{H:Hp}{s:Shared}{a:Addr}
theorem ZjI {kvs:List (KO×V)} (I:Inv X pins σ H s) (e:H a=some (.ext (Zdn a kvs))):kvs.length<=sizeLine/\(a==sysModules)=false/\∃vs,KV kvs vs/\s.heap.DictOf (optKind X.prog X.w) a vs:=by
 obtain⟨⟨a1,a2,vs,a3,a4⟩,_⟩:=(show ZW X.prog X.w H s.heap a (.ext (Zdn a kvs))from I.hok a _ e)
 exact⟨a1,a2,vs,a3,a4 _ _⟩
end
noncomputable def tDGetO (td ty:TE):TE:=fun σ H Q=>td σ H λx H1=>ty σ H1 λy H2=>∃a kvs k v,x=.ref a/\H2 a=some (.ext (Zdn a kvs))/\y=oV k/\Zag kvs k=some v/\Q v H2
noncomputable def sDPutO (td ty tv:TE):TS:=λD σ H=>tv σ H λv H1=>td σ H1 λx H2=>ty σ H2 λy H3=>∃a kvs k,x=.ref a/\H3 a=some (.ext (Zdn a kvs))/\y=oV k/\kvs.length<sizeLine/\D.nx σ (upd H3 a (.ext (Zdn a (putK kvs k v))))
noncomputable def tDispO (tk tv:TE):TE:=fun σ H Q=>∀p,H p=none->tk σ (upd H p (.ext (Zdn p []))) λx H1=>tv σ H1 λy H2=>H2 p=some (.ext (Zdn p []))/\∃k z,[(x,y)]=[(oV k,z)]/\Q (.ref p) (upd H2 p (.ext (Zdn p [(k,z)])))
section
variable {X:Cx}{o i e value:Expr}{pos pos' tpos:Pos}{td ty tv tk:TE}
theorem ZfG (ho:PE X o td) (hi:PE X i ty) (hs:NoSl i):PE X (.Subscript o i pos) (tDGetO td ty):=by
 intro pins s σ H Q I h
 refine Zmz PySem.F.slot_dict_getitem.lookup hs (thn (ho pins s σ H _ I h) λu s1 ⟨x,H1,I1,rx,q1⟩=>thn (hi pins s1 σ H1 _ I1 q1) λiv s2 ⟨y,H2,I2,ry,a,kvs,k,v,ex,g,ey,l,q2⟩=>?_)
 subst ex ey
 obtain rfl:u=Value.ref a:=rx
 obtain⟨z,hd,vs,rel,dd⟩:=ZjI I2 g
 obtain⟨w',hw,rw'⟩:=Zdp.some_of (v:=v) (o:=valueAt vs k) (by rw[<-l];exact rel.val k)
 exact⟨dd.typeIs,wpAny_getItem_of (ZoV ry) dd.mapOf hw ⟨v,H2,I2.tok _,rw',q2⟩⟩
theorem ZoW (ho:PE X o td) (hi:PE X i ty) (hv:PE X value tv) (hs:swapsWith value (some (.Subscript o i pos')) pos.line X.env=pure false) :
  PS X (.Assign [.Subscript o i pos'] value pos) (sDPutO td ty tv):=by
 intro pins s σ H D I h
 refine wpAny_Assign_Subscript (thn (hv pins s σ H _ I h) λr s1 ⟨v,H1,I1,rv,q1⟩=>thn (ho pins s1 σ H1 _ I1 q1) λu s2 ⟨x,H2,I2,rx,q2⟩=>thn (hi pins s2 σ H2 _ I2 q2) λiv s3 ⟨y,H3,I3,ry,a,kvs,k,ex,g,ey,hl0,q3⟩=>?_) hs
 subst ex ey
 obtain rfl:u=Value.ref a:=rx
 obtain⟨z,hd,vs,rel,dd⟩:=ZjI I3 g
 have hz:vs.length<=sizeLine:=by rw[<-rel.length];exact z
 have hl:(putK kvs k v).length<=sizeLine:=by have:=Zbr kvs k v;omega
 refine wpAny_setItem_pairs (hsz:=hz) (ZoV ry) dd λh' dd' hs=>?_
 have he:∃q,h'.get? a=some q:=let ⟨q,_,_,hq,_⟩:=dd';⟨q,hq⟩
 exact⟨σ,_,Zhf I3 (by rw[g];exact True.intro) hs he (ZjH hl hd (rel.put k rv) dd'),q3⟩
theorem ZoX {P:Program}{w:World}{H:Hp} (h:Heap) (hb:sysModules<h.objs.size):ZW P w H (h.push {cls:=.type "dict",data:=.dict #[]}) h.objs.size (.ext (Zdn h.objs.size [])) :=
 ZjH (vs:=[]) (Ym _) (beq_eq_false_iff_ne.mpr (Ne.symm (Yl hb))) .nil (Heap.DictOf.new h)
theorem ZoY {k v:Expr} (hk:PE X k tk) (hv:PE X v tv):PE X (.Dict [some k] [v] pos) (tDispO tk tv):=by
 intro pins s σ H Q I q
 have hn:=I.hok.fresh (Yd s.heap.objs.size)
 have I1:=I.laid (a:=s.heap.objs.size) (o:=.ext (Zdn s.heap.objs.size [])) (h':=s.heap.push {cls:=.type "dict",data:=.dict #[]}) (t':=s.toks) (λ_ _ q=>Yk _ q) (Yd _) (ZoX s.heap I.big)
 have hp:PPs X pos [some k] [v] [(tk,tv)]:=ZoI hk hv ZqC
 refine wpAny_Dict_walk (knd:=optKind X.prog X.w) rfl rfl (by simp) (by show 1<=15;decide) (thn (hp pins _ σ _ (λps H2=>H2 s.heap.objs.size=some (.ext (Zdn s.heap.objs.size []))/\∃k y,ps=[(oV k,y)]/\Q (.ref s.heap.objs.size) (upd H2 s.heap.objs.size (.ext (Zdn s.heap.objs.size [(k,y)])))) I1 ?_) λws s2 ⟨ps,H2,I2,rel,e,kk,y,ep,q2⟩=>?_)
 ·have:=q _ hn
  show tk σ _ _
  exact this
 subst ep
 cases rel with
 |@cons a b as bs h t =>
  cases t
  obtain⟨b1,b2⟩:=b
  obtain⟨z,hd,vs0,r0,dd⟩:=ZjI I2 e
  cases r0
  refine⟨[(kk,b2)],⟨ZoV h.1,rfl,True.intro⟩,dd,λh' dd' hs=>⟨.ref s.heap.objs.size,_,?_,rfl,q2⟩⟩
  have he:∃q,h'.get? s.heap.objs.size=some q:=let ⟨q,_,_,hq,_⟩:=dd';⟨q,hq⟩
  exact Zhf I2 (by rw[e];exact True.intro) hs he (ZjH (vs:=[(kk,b2)]) (by show 1<=sizeLine;decide) hd (.cons ⟨rfl,h.2⟩ .nil) dd')
end
end L2
namespace L2
open PySem PySem.Spec PyProof.Rows PySem.W
end L2
namespace HT
open PySem PyProof.Rows
section
open PySem.SeqAt
open PySem.AutoSeq1 (wpAny_loadPart')
open PySem.MeetsSeq PySem.MeetsSeq2 PySem.MeetsSeq3
end
end HT
namespace L2
open PySem PySem.Spec PyProof.Rows PySem.W
end L2
namespace K88
open PySem PySem.Spec PyProof.Rows L2
open PySem.W (nsIn mg_of fnOf keepIn codeIn mg_none_of)
local macro_rules | `(tactic| walk_at "rd") => `(tactic| simp only [tIfS, tNot, tTest, tChain, rI0, rI, rU, tVar, tC, tB, tIf, tOrV, tCall, tCons, tNil, tAsg, tSeq, tRet, tNext, tOp, tUn, tAnd, tOr, tDrop, gName, gSub, tAug, tCB, tSl, tRaise, tLst, tTup, L2.start, tYes, gTup, gCons, gNil, iniC, Option.join_some, Option.join_none, rEq, rNe, Zmi, Zmj, Zmk, Zml, Zmm, Zmn, tBM, Bool.true_eq_false, YA, List.map_nil, List.cons_append, List.nil_append, Yn, List.length_nil, List.replicate, List.append_nil, List.set_cons_zero, List.set_cons_succ, List.getElem?_cons_zero, List.getElem?_cons_succ, Option.some.injEq, V.int.injEq, V.bl.injEq, V.ref.injEq, List.cons.injEq, and_true, true_and, exists_eq_left, exists_eq_left', exists_and_left, exists_eq, decide_eq_true_eq, Bool.not_eq_true', decide_eq_false_iff_not, cxK, and_assoc, Bool.false_eq_true, ↓reduceIte, Zmh, ZiL, Zkl, iRng1, iList, iTup, rIxL, rIxT, rSetL, rCat, rIsi, rSum, tDelT, rPop, rIntB, rLen, rTof, rTofF, rIsiS, tBMH, rIndexT, iSeq, tBM0, rEqD, tRngV, iEnum, iEnumT, tMaxDT, tMaxD, tMinD, rAll, ipM, rIxQ, tRev, rSlL, tPart, tNoPart, tSl, ipI, rAppend, rRep, Zmo, Zoe, iRevR, V.str.injEq, tFldC, sFldC, tMeth, tMake, tDNewK, tDGet, sDPut, tDNotIn, tLam, tSortR2, gLst, rIndexT, rTofF, rIsiS, tBMH, iEnumS, tDGetO, sDPutO, tDispO])
noncomputable def top (i:Nat):Stmt:=PySem.Challenge.pw_dipkin_k88_whole_orders_and_rows_add_up.main.body.getD i (.Pass ⟨0,0,0,0⟩)
noncomputable abbrev s_settle:Stmt:=top 8
noncomputable abbrev s_tree_of:Stmt:=top 9
noncomputable abbrev s_way_up:Stmt:=top 10
noncomputable abbrev s_is_tree:Stmt:=top 11
noncomputable abbrev s_need_tree:Stmt:=top 12
noncomputable abbrev s_fences_of:Stmt:=top 13
noncomputable abbrev s_young_of:Stmt:=top 14
noncomputable abbrev s_from_below:Stmt:=top 15
noncomputable abbrev s_need_count:Stmt:=top 17
noncomputable abbrev s_running_sums:Stmt:=top 18
noncomputable abbrev s_one_more:Stmt:=top 19
noncomputable abbrev s_climbs:Stmt:=top 20
noncomputable abbrev s_many_trees:Stmt:=top 21
noncomputable abbrev s_many_flat:Stmt:=top 22
noncomputable abbrev s_spans_of:Stmt:=top 24
noncomputable abbrev s_need_short:Stmt:=top 26
noncomputable abbrev s_by_drops:Stmt:=top 27
noncomputable abbrev s_pick:Stmt:=top 29
noncomputable abbrev s_goings_on:Stmt:=top 30
noncomputable abbrev s_drop_ways:Stmt:=top 31
noncomputable abbrev s_tree_at:Stmt:=top 32
noncomputable abbrev s_need_few:Stmt:=top 35
noncomputable abbrev s_span_ways:Stmt:=top 36
noncomputable abbrev s_Filling___init__:Stmt:=inClass (top 37) 0
noncomputable abbrev s_Filling_how_many_rows:Stmt:=inClass (top 37) 1
noncomputable abbrev s_Filling_outside_ways:Stmt:=inClass (top 37) 2
noncomputable abbrev s_Filling_outside_by_elder:Stmt:=inClass (top 37) 3
noncomputable abbrev s_Filling_onward_ways:Stmt:=inClass (top 37) 4
noncomputable abbrev s_Filling_next_ways:Stmt:=inClass (top 37) 5
noncomputable abbrev s_many_rows:Stmt:=top 38
noncomputable abbrev s_row_at:Stmt:=top 39
noncomputable abbrev s_number_of_row:Stmt:=top 40
noncomputable abbrev s_many_orders:Stmt:=top 41
noncomputable abbrev s_flat_number:Stmt:=top 43
noncomputable abbrev s_flattest:Stmt:=top 44
noncomputable abbrev s__law_pool:Stmt:=top 46
noncomputable abbrev s__law_pick:Stmt:=top 47
noncomputable abbrev s__law_size:Stmt:=top 48
noncomputable abbrev s__law_drops:Stmt:=top 49
noncomputable abbrev s__law_hung:Stmt:=top 50
noncomputable abbrev s__law_tree:Stmt:=top 51
noncomputable abbrev s__law_times:Stmt:=top 52
noncomputable abbrev s__law_orders_of_all:Stmt:=top 53
noncomputable abbrev s__law_tree_right:Stmt:=top 54
noncomputable abbrev s_law:Stmt:=top 55
structure Txt (K:PySem.W.Frag) (mg:Str->Option Value):Prop where
 b_all:mg "all"=none
 b_enumerate:mg "enumerate"=none
 b_int:mg "int"=none
 b_isinstance:mg "isinstance"=none
 b_len:mg "len"=none
 b_max:mg "max"=none
 b_min:mg "min"=none
 b_range:mg "range"=none
 b_reversed:mg "reversed"=none
 b_sorted:mg "sorted"=none
 b_sum:mg "sum"=none
 b_tuple:mg "tuple"=none
 c_DipError:mg "DipError"=some (.ref (clsAt mg "DipError"))
 x_DipError:PySem.W.excIn K (clsAt mg "DipError") bmV newV=true
 c_TooMany:mg "TooMany"=some (.ref (clsAt mg "TooMany"))
 x_TooMany:PySem.W.excIn K (clsAt mg "TooMany") bmV newV=true
 c_NoTree:mg "NoTree"=some (.ref (clsAt mg "NoTree"))
 x_NoTree:PySem.W.excIn K (clsAt mg "NoTree") bmV newV=true
 c_NoTelling:mg "NoTelling"=some (.ref (clsAt mg "NoTelling"))
 x_NoTelling:PySem.W.excIn K (clsAt mg "NoTelling") bmV newV=true
 c_NoNumber:mg "NoNumber"=some (.ref (clsAt mg "NoNumber"))
 x_NoNumber:PySem.W.excIn K (clsAt mg "NoNumber") bmV newV=true
 c_Filling:mg "Filling"=some (.ref (clsAt mg "Filling"))
 cl_Filling:Cls K (clsAt mg "Filling")
 n_Filling_tree:NoAttr K (clsAt mg "Filling") "tree"
 n_Filling_most:NoAttr K (clsAt mg "Filling") "most"
 n_Filling_young:NoAttr K (clsAt mg "Filling") "young"
 n_Filling_spans:NoAttr K (clsAt mg "Filling") "spans"
 n_Filling_outsides:NoAttr K (clsAt mg "Filling") "outsides"
 n_Filling_row:NoAttr K (clsAt mg "Filling") "row"
 m_MOST_PLACES:mg "MOST_PLACES"=some (.int 40 (tokAt mg "MOST_PLACES"))
 m_MOST_FILLED:mg "MOST_FILLED"=some (.int 12 (tokAt mg "MOST_FILLED"))
noncomputable def tabsL (K:PySem.W.Frag) (mg:Str->Option Value):List (Addr×Str):=[(ZjC K mg "from_below",lamQ "from_below")]
noncomputable abbrev SpT:=PySem.W.Frag->(Str->Option Value)->Sp
noncomputable def spLaw (K:PySem.W.Frag) (mg:Str->Option Value):Sp:=λvs H Q E=>∃(a:Addr) (ns:List Int),vs=[.ref a]/\SqL K H a (ns.map V.int)/\ns.length<=63/\(∀p∈tabsL K mg,H p.1=some (ZhN p.2))/\∀H',Q (.bl true) H'
noncomputable def sp__law_pool:SpT:=λK mg vs H Q E=>∃(a:Addr) (ns:List Int) (k:Int),vs=[.ref a,.int k]/\SqL K H a (ns.map V.int)/\0<=k/\k<=100/\∀p H',H p=none->Zf H H'->ZF H' p->Q (.ref p) H'
noncomputable def sp__law_pick:SpT:=λK mg vs H Q E=>∃(p:Addr) (many:Int),vs=[.ref p,.int many]/\0<many/\many<1267650600228229401496703205376/\ZF H p/\∀d H',0<=d->d<many->ZF H' p->Exc p H H'->Q (.int d) H'
noncomputable def cTM (mg:Str->Option Value):Value:=.ref (clsAt mg "TooMany")
noncomputable def cNN (mg:Str->Option Value):Value:=.ref (clsAt mg "NoNumber")
noncomputable def sp_need_short:SpT:=λK mg vs H Q E=>∃(t:Addr) (xs:List V),vs=[.ref t]/\H t=some (.tup xs)/\xs.length<=40/\Q .non H
noncomputable def sp_by_drops:SpT:=λK mg vs H Q E=>∃(t:Addr) (ds:List Nat),vs=[.ref t]/\H t=some (.tup (Zr ds))/\ds.length<=40/\Zbz ds/\∀(u:Addr) H',Zf H H'->ZeY H' u ((Zmu ds).map V.int)->Q (.ref u) H'
noncomputable def sp_tree_at:SpT:=λK mg vs H Q E=>∃(n x:Int),vs=[.int n,.int x]/\(¬ (0<=n/\n<=40)->∀H',Zf H H'->E (cTM mg) none H')/\(∀m:Nat,n=m->m<=40->¬ (0<=x/\x<goN m 0)->∀H',Zf H H'->E (cNN mg) none H')/\(∀m:Nat,n=m->m<=40->0<=x->x<goN m 0->∀(u:Addr) H',Zf H H'->ZeY H' u ((Zmu (ZoD m x)).map V.int)->Q (.ref u) H')
noncomputable def sp__law_size:SpT:=λK mg vs H Q E=>∃(p:Addr) (most:Int),vs=[.ref p,.int most]/\0<=most/\most<=1000/\ZF H p/\∀d H',0<=d->d<=most->ZF H' p->Exc p H H'->Q (.int d) H'
noncomputable def sp_need_count:SpT:=λK mg vs H Q E=>∃n:Int,vs=[.int n]/\((0<=n/\n<=40)->Q .non H)/\(¬ (0<=n/\n<=40)->E (cTM mg) none H)
noncomputable def sp_settle:SpT:=λK mg vs H Q E=>∃(el sp:Addr) (es:List Int) (A B:List Nat) (i:Nat),vs=[.ref el,.ref sp,.int i,.int A.length]/\H el=some (.lst (es.map V.int))/\H sp=some (.lst (Zr (A++B)))/\el≠sp/\i<es.length/\(∀q∈A++B,q<es.length)/\(A++B).length<=1000 /\
 ∀H',(∀b o,b≠el->b≠sp->H b=some o->H' b=some o)->H' el=some (.lst ((Zbq es A B i).map V.int))->H' sp=some (.lst (Zr (A++[i])))->Q .non H'
noncomputable def sp_tree_of:SpT:=λK mg vs H Q E=>∃(r:Addr) (ns:List Int),vs=[.ref r]/\(SqL K H r (ns.map V.int)\/SqT K H r (ns.map V.int))/\ns.length<=1000/\∀(t:Addr) (es:List Int) H',Zi ns es->Zf H H'->ZeY H' t (es.map V.int)->Q (.ref t) H'
noncomputable def sp_way_up:SpT:=λK mg vs H Q E=>∃(t:Addr) (T:List Int) (p:Nat),vs=[.ref t,.int p]/\SqT K H t (T.map V.int)/\T.length<=1000/\p<T.length/\∀(w:Addr) H',H w=none->Zf H H'->H' w=some (.lst ((wayI T p).map V.int))->Q (.ref w) H'
noncomputable def sp_is_tree:SpT:=λK mg vs H Q E=>∃(t:Addr) (T:List Int),vs=[.ref t]/\SqT K H t (T.map V.int)/\T.length<=1000/\(Zbb T->∀H',Zf H H'->Q (.bl true) H')/\(¬ Zbb T->∀H',Zf H H'->Q (.bl false) H')
noncomputable def sp_need_tree:SpT:=λK mg vs H Q E=>∃(t:Addr) (T:List Int),vs=[.ref t]/\SqT K H t (T.map V.int)/\T.length<=1000/\(Zbb T->∀H',Zf H H'->Q .non H')/\(¬ Zbb T->∀H',Zf H H'->E (.ref (clsAt mg "NoTree")) none H')
noncomputable def sp_fences_of:SpT:=λK mg vs H Q E=>∃(t:Addr) (ns T:List Int),vs=[.ref t]/\SqT K H t (T.map V.int)/\Zi ns T/\ns.length<=1000/\∀(l:Addr) H',Zf H H'->ZaV H' l ns.length (λp=>(Zax (nth ns) p,ZaB (nth ns) ns.length p))->Q (.ref l) H'
noncomputable def spanL (f:Nat->Int) (n:Nat):List (List Int):=(List.range n).map λp=>[Zax f p+1,ZaB f n p-1]
noncomputable def sp_spans_of:SpT:=λK mg vs H Q E=>∃(t:Addr) (T:List Int),vs=[.ref t]/\SqT K H t (T.map V.int)/\T.length<=1000/\((∃ns:List Int,T.length<=40/\Zi ns T/\∀(l:Addr) H',H l=none->Zf H H'->ZhF H' l (spanL (nth ns) ns.length)->Q (.ref l) H')\/(¬ Zbb T/\∀H',Zf H H'->E (.ref (clsAt mg "NoTree")) none H'))
noncomputable def sp_many_orders:SpT:=λK mg vs H Q E=>∃(t:Addr) (ns T:List Int),vs=[.ref t]/\SqT K H t (T.map V.int)/\Zi ns T/\ns.length<=40/\∀H',Zf H H'->Q (.int ((ZL ns.length / prodF (szN (nth ns) ns.length) 0 ns.length:Nat):Int)) H'
noncomputable def sp_flat_number:SpT:=λK mg vs H Q E=>∃(t:Addr) (T:List Int) (p:Nat),vs=[.ref t,.int p]/\SqT K H t (T.map V.int)/\T.length<=1000/\p<T.length/\∀H',Zf H H'->Q (.int (Zaa T p:Nat)) H'
noncomputable def sp_flattest:SpT:=λK mg vs H Q E=>∃(t:Addr) (T:List Int),vs=[.ref t]/\SqT K H t (T.map V.int)/\T.length<=1000/\(Zbb T->∀(t':Addr) H',Zf H H'->H' t'=some (.tup ((Zap T).map V.int))->Q (.ref t') H')/\(¬ Zbb T->∀H',Zf H H'->E (.ref (clsAt mg "NoTree")) none H')
noncomputable def sp_goings_on:SpT:=λK mg vs H Q E=>∃n:Nat,vs=[.int (n:Int)]/\n<=40/\∀(l:Addr) H',Zf H H'->Rows H' l (goTab (n+1) n)->Q (.ref l) H'
noncomputable def sp_drop_ways:SpT:=λK mg vs H Q E=>∃(g:Addr) (r m st:Nat),vs=[.ref g,.int (st:Int)]/\H g=some (.lst ((ZS r m).map V.int))/\st+2<=m/\m<=100/\∀(l:Addr) H',Zf H H'->H' l=some (.lst (((List.range (st+1)).map λf=>goN r (st+1-f)).map V.int))->Q (.ref l) H'
noncomputable def sp__law_drops:SpT:=λK mg vs H Q E=>∃(p:Addr) (n:Nat),vs=[.ref p,.int n]/\n<=40/\ZF H p/\∀(t:Addr) (ds:List Nat) H',H t=none->ds.length=n->Zbz ds->H' t=some (.tup (Zr ds))->ZF H' p->Exc p H H'->Q (.ref t) H'
noncomputable def sp__law_hung:SpT:=λK mg vs H Q E=>∃(t:Addr) (ds:List Nat),vs=[.ref t]/\H t=some (.tup (Zr ds))/\ds.length<=40/\Zbz ds/\∀(u:Addr) (es:List Int) H',H u=none->es.length=ds.length->(∃ns,Zi ns es)->Zf H H'->H' u=some (.tup (es.map V.int))->Q (.ref u) H'
noncomputable def sp__law_tree:SpT:=λK mg vs H Q E=>∃(p:Addr) (most:Nat),vs=[.ref p,.int most]/\most<=40/\ZF H p/\∀(u:Addr) (es:List Int) H',H u=none->es.length<=most->(∃ns,Zi ns es)->H' u=some (.tup (es.map V.int))->ZF H' p->Exc p H H'->Q (.ref u) H'
noncomputable def sp_running_sums:SpT:=λK mg vs H Q E=>∃(a:Addr) (ns:List Int),vs=[.ref a]/\SqL K H a (ns.map V.int)/\ns.length<=100/\∀l H',Zf H H'->H' l=some (.lst ((Zv 0 ns).map V.int))->Q (.ref l) H'
noncomputable def sp_one_more:SpT:=λK mg vs H Q E=>∃(a:Addr) (ns:List Int),vs=[.ref a]/\SqL K H a (ns.map V.int)/\ns.length<=100/\ns≠[]/\∀l H',Zf H H'->H' l=some (.lst ((Zkm ns).map V.int))->Q (.ref l) H'
noncomputable def sp_climbs:SpT:=λK mg vs H Q E=>∃n most:Nat,vs=[.int n,.int most]/\n<=40/\most<=40/\∀l H',Zf H H'->H' l=some (.lst ((ZeJ most (n-1)).map V.int))->Q (.ref l) H'
noncomputable def flatV (n most:Int):Int:=if n=0 then 1 else if 0<=most then (ZeJ (min most (n-1)).toNat (n.toNat-1)).sum else 0
noncomputable def sp_many_flat:SpT:=λK mg vs H Q E=>∃n k:Int,vs=[.int n,.int k]/\((0<=n/\n<=40)->∀H',Zf H H'->Q (.int (flatV n k)) H')/\(¬ (0<=n/\n<=40)->E (cTM mg) none H)
noncomputable def tn:Nat->List Int
 |0=>[1]
 |t+1=>grow (tn t)
noncomputable def treesV (n:Int):Int:=flatV n n
noncomputable def sp_many_trees:SpT:=λK mg vs H Q E=>∃n:Int,vs=[.int n]/\((0<=n/\n<=40)->∀H',Zf H H'->Q (.int (treesV n)) H')/\(¬ (0<=n/\n<=40)->E (cTM mg) none H)
noncomputable def optN:Option Nat->V
 |none=>.non
 |some i=>.int (i:Int)
noncomputable def AheadIs (T:List Int) (v:Nat):Option Nat->Prop
 |none=>∀c,c<v->c<T.length->nth T c≠v
 |some c=>c<v/\c<T.length/\nth T c=v
noncomputable def BehindIs (T:List Int) (v:Nat):Option Nat->Prop
 |none=>∀c,v<c->c<T.length->nth T c≠v
 |some c=>v<c/\c<T.length/\nth T c=v
noncomputable def YoungAt (H:Hp) (y:Addr) (T:List Int):Prop:=∃as:List Addr,H y=some (.lst (as.map V.ref))/\as.length=T.length/\∀(v:Nat) (a:Addr),as[v]?=some a->∃ah bh,AheadIs T v ah/\BehindIs T v bh/\H a=some (.lst [optN ah,optN bh])
noncomputable def sp_young_of:SpT:=λK mg vs H Q E=>∃(t:Addr) (T:List Int),vs=[.ref t]/\SqT K H t (T.map V.int)/\Zbb T/\∀(y:Addr) H',H y=none->YoungAt H' y T->Zf H H'->Q (.ref y) H'
noncomputable def dpI (T:List Int) (i:Int):Int:=((wayI T i.toNat).length:Int)
noncomputable def sp_from_below:SpT:=λK mg vs H Q E=>∃(t:Addr) (T:List Int),vs=[.ref t]/\SqT K H t (T.map V.int)/\Zbb T/\ZbA K mg "from_below" H/\∀(l:Addr) (ps:List Int) H',H l=none->Zf H H'->ps.Perm (nats (T.length:Int))->(ps.Pairwise λx y=>dpI T y<=dpI T x)->H' l=some (.lst (ps.map V.int))->Q (.ref l) H'
noncomputable def cOf (c:Nat->Nat->Nat):Option Nat->Nat->Nat
 |none,_=>1
 |some p,j=>c p j
noncomputable def WayOf (T:List Int) (m:Nat) (c:Nat->Nat->Nat) (p:Nat):Prop:=∃ah bh,AheadIs T p ah/\BehindIs T p bh/\∀j,j<=m->c p j=if j=m then 0 else cOf c ah (j+1)*cOf c bh j+c p (j+1)
noncomputable def WaysIs (T:List Int) (m:Nat) (c:Nat->Nat->Nat):Prop:=∀p,p<T.length->WayOf T m c p
noncomputable def wayL (m:Nat) (f:Nat->Nat):List V:=(List.range (m+1)).map λj=>V.int ((f j:Nat):Int)
noncomputable def WaysAt (H:Hp) (d:Addr) (b m:Nat) (c:Nat->Nat->Nat) (P:Nat->Prop):Prop:=∃kvs:List (KO×V),H d=some (.ext (Zdn d kvs))/\kvs.length<=b/\(∃l,Zag kvs none=some (.ref l)/\H l=some (.lst (wayL m λ_=>1)))/\∀p,P p->∃l,Zag kvs (some (p:Int))=some (.ref l)/\H l=some (.lst (wayL m (c p)))
noncomputable def sp_need_few:SpT:=λK mg vs H Q E=>∃(n m:Nat),vs=[.int n,.int m]/\n<=12/\m<=12/\Q .non H
noncomputable def sp_span_ways:SpT:=λK mg vs H Q E=>∃(t y:Addr) (T:List Int) (m:Nat),vs=[.ref t,.ref y,.int m]/\SqT K H t (T.map V.int)/\YoungAt H y T/\Zbb T/\T.length<=12/\m<=12/\ZbA K mg "from_below" H/\∀(d:Addr) (c:Nat->Nat->Nat) H',H d=none->Zf H H'->WaysIs T m c->WaysAt H' d 13 m c (λp=>p<T.length)->Q (.ref d) H'
noncomputable def cFi (mg:Str->Option Value):Addr:=clsAt mg "Filling"
noncomputable def TupQ (H:Hp) (t:Addr) (T:List Int):Prop:=ZeY H t (T.map V.int)\/(T=[]/\H t=some (.tup []))
theorem TupQ.same {H H':Hp}{t:Addr}{T:List Int} (h:TupQ H t T) (s:Zf H H'):TupQ H' t T:=h.elim (λe=>.inl (e.same s)) λe=>.inr ⟨e.1,s _ _ e.2⟩
theorem TupQ.sq {K:PySem.W.Frag}{H:Hp}{t:Addr}{T:List Int} (h:TupQ H t T):SqT K H t (T.map V.int):=h.elim ZeY.sq λe=>by rw[e.1];exact SqT.of e.2
theorem TupQ.ne {H:Hp}{t:Addr}{T:List Int} (h:TupQ H t T) (n:T≠[]):ZeY H t (T.map V.int):=h.elim id λe=>absurd e.1 n
noncomputable def FillAt (H:Hp) (x t:Addr) (T:List Int) (m:Nat) (c:Nat->Nat->Nat) (mg:Str->Option Value):Prop:=∃(dx d:Addr) (fs:List (Str×V)),H x=some (.ins (cFi mg) dx fs)/\fs.lookup (Str.ofString "tree")=some (.ref t)/\fs.lookup (Str.ofString "spans")=some (.ref d)/\fs.lookup (Str.ofString "how_many_rows")=none/\TupQ H t T/\WaysAt H d 13 m c (λp=>p<T.length)
noncomputable def topC (T:List Int) (c:Nat->Nat->Nat):Nat:=if T=[]then 1 else c (T.idxOf (-1)) 0
noncomputable def sp_Filling_how_many_rows:SpT:=λK mg vs H Q E=>∃(x t:Addr) (T:List Int) (m:Nat) (c:Nat->Nat->Nat),vs=[.ref x]/\FillAt H x t T m c mg/\Zbb T/\T.length<=12/\Q (.int ((topC T c:Nat):Int)) H
noncomputable def sp_many_rows:SpT:=λK mg vs H Q E=>∃(t:Addr) (T:List Int) (m:Nat),vs=[.ref t,.int m]/\TupQ H t T/\Zbb T/\T.length<=12/\m<=12/\ZbA K mg "from_below" H/\∀(c:Nat->Nat->Nat) H',Zf H H'->WaysIs T m c->Q (.int ((topC T c:Nat):Int)) H'
theorem way_step {ns T:List Int} (hT:Zi ns T) {p:Nat} (hp:p<T.length):(nth T p=-1/\way T p=[])\/∃q:Nat,nth T p=q/\q<T.length/\way T p=q::way T q:=by
 have e:=hT.1
 rcases Zb3 hT (p:=p) (by omega)with z|⟨q,z,hq,_,_⟩
 ·exact .inl ⟨z,Zqu z⟩
 ·exact .inr ⟨q,z,by omega,ZaS hT (by omega) z⟩
theorem way_dp {ns T:List Int} (hT:Zi ns T) {a:Nat}:∀(k b:Nat),b<T.length->(way T b).length<=k->a∈way T b->(way T a).length<(way T b).length:=by
 intro k
 induction k with
 |zero =>
  intro b hb hk h
  have:way T b=[]:=List.length_eq_zero_iff.mp (by omega)
  rw[this]at h;cases h
 |succ k ih =>
  intro b hb hk h
  rcases way_step hT hb with⟨_,e⟩|⟨q,_,hq,e⟩
  ·rw[e]at h;cases h
  ·rw[e,Yn]at hk⊢
   rw[e]at h
   rcases Yo.mp h with rfl|h
   ·omega
   ·have:=ih q hq (by omega) h
    omega
theorem nd_few {L:List Nat}{n:Nat} (nd:L.Nodup) (h:∀q∈L,q<n):L.length<=n:=by
 have pm:L.Perm ((List.range n).filter λx=>decide (x∈L)):=(List.perm_ext_iff_of_nodup nd (List.nodup_range.filter _)).mpr λx=>by
  rw[YV]
  exact⟨λz=>⟨YC.mpr (h x z),Y2 z⟩,λz=>of_decide_eq_true z.2⟩
 have l2:=List.length_filter_le (λx=>decide (x∈L)) (List.range n)
 rw[Y4,<-pm.length_eq]at l2
 exact l2
theorem way_nd {nsT T:List Int} (hT:Zi nsT T):∀k b,b<T.length->(way T b).length<=k->(way T b).Nodup/\b∉way T b:=by
 have e:=hT.1
 intro k
 induction k with
 |zero =>
  intro b hb hk
  have:way T b=[]:=List.length_eq_zero_iff.mp (by omega)
  rw[this];simp
 |succ k ih =>
  intro b hb hk
  rcases way_step hT hb with⟨_,z⟩|⟨q,_,hq,z⟩
  ·rw[z];simp
  ·rw[z,Yn]at hk
   obtain⟨h1,h2⟩:=ih q hq (by omega)
   have nb:b∉q::way T q:=λy=>by
    have:=way_dp hT _ b hb (Yd _) (z▸y)
    omega
   rw[z]
   exact⟨List.nodup_cons.mpr ⟨h2,h1⟩,nb⟩
theorem nthV {ns:List Int}{i:Nat} (h:i<ns.length):(ns.map V.int)[i]?=some (V.int (nth ns i)):=by
 unfold nth
 rw[YE,Yh h,Yg,Yh h];rfl
theorem dpI_elder {ns T:List Int} (hT:Zi ns T) {p q:Nat} (hp:p<ns.length) (h:nth T p=q):dpI T (p:Int)=dpI T (q:Int)+1:=by
 unfold dpI
 simp only[YZ,Zfz,Yi]
 rw[ZaS hT hp h,Yn];omega
theorem nth_mem {ns:List Int}{i:Nat} (h:i<ns.length):nth ns i∈ns:=by
 unfold nth
 rw[Yg,Yh h];exact YF h
noncomputable def colS (a b:Nat->Nat) (m:Nat):Nat->Nat
 |0=>0
 |k+1=>colS a b m k+a (m-k)*b (m-1-k)
noncomputable def eachL (a b:Nat->Nat) (m:Nat):List Int:=(List.range m).map λk=>((a (m-k)*b (m-1-k):Nat):Int)
theorem each_sums (a b:Nat->Nat) (m:Nat):∀k,k<=m->Zv 0 ((eachL a b m).take k)=(List.range k).map (λi=>((colS a b m (i+1):Nat):Int))/\((eachL a b m).take k).sum=((colS a b m k:Nat):Int)
 |0,_=>by simp[Zv,colS]
 |k+1,h=>by
  obtain⟨h1,h2⟩:=each_sums a b m k (by omega)
  have e:(eachL a b m).take (k+1)=(eachL a b m).take k++[((a (m-k)*b (m-1-k):Nat):Int)]:=by
   rw[Y9]
   simp[eachL,show k<m by omega]
  rw[e,Zan,h1,h2,List.sum_append,h2,YJ,YM]
  constructor
  ·simp[Zv,colS]
  ·simp[colS]
theorem wayL_of (a b:Nat->Nat) (m:Nat):(((0:Int)::Zv 0 (eachL a b m)).reverse).map V.int=wayL m λj=>colS a b m (m-j):=by
 have el:(eachL a b m).length=m:=by simp[eachL]
 have h1:=(each_sums a b m m (Yd _)).1
 rw[List.take_of_length_le (by omega)]at h1
 rw[h1]
 unfold wayL
 refine List.ext_getElem (by simp) λj j1 j2=>?_
 have hj:j<=m:=by simp at j2;omega
 rw[List.getElem_map,List.getElem_map,List.getElem_reverse,List.getElem_range]
 congr 1
 by_cases e:j=m
 ·subst e;simp[colS]
 ·have:((0:Int)::(List.range m).map λi=>((colS a b m (i+1):Nat):Int)).length-1-j=(m-j-1)+1:=by simp;omega
  simp only[this,List.getElem_cons_succ,List.getElem_map,List.getElem_range]
  rw[show m-j-1+1=m-j by omega]
noncomputable def WayP (T:List Int) (m:Nat) (c:Nat->Nat->Nat) (P:Nat->Prop) (p:Nat):Prop:=∃ah bh,AheadIs T p ah/\BehindIs T p bh/\(∀q,ah=some q->P q)/\(∀q,bh=some q->P q)/\∀j,j<=m->c p j=if j=m then 0 else cOf c ah (j+1)*cOf c bh j+c p (j+1)
noncomputable def setC (c:Nat->Nat->Nat) (v:Nat) (f:Nat->Nat):Nat->Nat->Nat:=λp=>if p=v then f else c p
theorem setC_same (c:Nat->Nat->Nat) (v:Nat) (f:Nat->Nat):setC c v f v=f:=Yc rfl
theorem setC_ne {c:Nat->Nat->Nat}{v p:Nat}{f:Nat->Nat} (h:p≠v):setC c v f p=c p:=Yb h
theorem cOf_set {c:Nat->Nat->Nat}{v:Nat}{f:Nat->Nat}{o:Option Nat} (h:∀q,o=some q->q≠v):cOf (setC c v f) o=cOf c o:=by
 cases o with
 |none=>rfl
 |some q=>funext j;show setC c v f q j=c q j;rw[setC_ne (h q rfl)]
theorem WayP.keep {T:List Int}{m:Nat}{c:Nat->Nat->Nat}{P P':Nat->Prop}{p v:Nat}{f:Nat->Nat} (h:WayP T m c P p) (hp:p≠v) (hv:¬ P v) (hs:∀q,P q->P' q):WayP T m (setC c v f) P' p:=by
 obtain⟨ah,bh,h1,h2,h3,h4,h5⟩:=h
 refine⟨ah,bh,h1,h2,λq e=>hs q (h3 q e),λq e=>hs q (h4 q e),λj hj=>?_⟩
 rw[cOf_set (v:=v) (λq e z=>hv (by rw[<-z];exact h3 q e)),cOf_set (v:=v) (λq e z=>hv (by rw[<-z];exact h4 q e)),setC_ne hp]
 exact h5 j hj
theorem WayP.new {T:List Int}{m:Nat}{c:Nat->Nat->Nat}{P P':Nat->Prop}{v:Nat}{ah bh:Option Nat} (h1:AheadIs T v ah) (h2:BehindIs T v bh) (h3:∀q,ah=some q->P q) (h4:∀q,bh=some q->P q) (hv:¬ P v) (hs:∀q,P q->P' q):WayP T m (setC c v λj=>colS (cOf c ah) (cOf c bh) m (m-j)) P' v:=by
 refine⟨ah,bh,h1,h2,λq e=>hs q (h3 q e),λq e=>hs q (h4 q e),λj hj=>?_⟩
 rw[cOf_set (v:=v) (λq e z=>hv (by rw[<-z];exact h3 q e)),cOf_set (v:=v) (λq e z=>hv (by rw[<-z];exact h4 q e)),setC_same]
 by_cases e:j=m
 ·subst e;simp[colS]
 ·rw[Yb e]
  show colS _ _ m (m-j)=_
  rw[show m-j=(m-(j+1))+1 by omega]
  show colS _ _ m (m-(j+1))+_=_
  rw[show m-(m-(j+1))=j+1 by omega,show m-1-(m-(j+1))=j by omega]
  omega
theorem kid_first {ns T ps:List Int} (hT:Zi ns T) (hpm:ps.Perm (nats (T.length:Int))) (hpw:ps.Pairwise λx y=>dpI T y<=dpI T x) {q v i:Nat} (hq:q<T.length) (h:nth T q=v) (hi:ps[i]?=some (v:Int)):∃k,k<i/\ps[k]?=some (q:Int):=by
 have e:=hT.1
 have dp:=dpI_elder hT (p:=q) (by omega) h
 have hm:(q:Int)∈ps:=hpm.mem_iff.mpr (YG.mpr ⟨q,YC.mpr (by omega),rfl⟩)
 obtain⟨k,hk,ek⟩:=Y1 hm
 refine⟨k,?_,by rw[Yh hk,ek]⟩
 obtain⟨hi1,hi2⟩:=Yr.mp hi
 rcases Nat.lt_trichotomy k i with z|z|z
 ·exact z
 ·subst z
  rw[ek]at hi2
  have:q=v:=by omega
  subst this;omega
 ·have:=List.pairwise_iff_getElem.mp hpw i k hi1 hk z
  rw[hi2,ek]at this
  omega
theorem WaysAt.same {H H':Hp}{d:Addr}{b m:Nat}{c:Nat->Nat->Nat}{P:Nat->Prop} (h:WaysAt H d b m c P) (s:Zf H H'):WaysAt H' d b m c P:=by
 obtain⟨kvs,w1,w0,⟨l0,w2,w3⟩,w4⟩:=h
 exact⟨kvs,s _ _ w1,w0,⟨l0,w2,s _ _ w3⟩,λp hp=>let ⟨l,a,e⟩:=w4 p hp;⟨l,a,s _ _ e⟩⟩
theorem WaysAt.put {H:Hp}{d e:Addr}{b m v:Nat}{c:Nat->Nat->Nat}{P P':Nat->Prop}{f:Nat->Nat}{kvs:List (KO×V)} (hk:H d=some (.ext (Zdn d kvs))) (hb:kvs.length<=b) (h0:∃l,Zag kvs none=some (.ref l)/\H l=some (.lst (wayL m λ_=>1))) (hP:∀p,P p->∃l,Zag kvs (some (p:Int))=some (.ref l)/\H l=some (.lst (wayL m (c p)))) (he:H e=some (.lst (wayL m f))) (hv:¬ P v) (hs:∀p,P' p->P p\/p=v):WaysAt (upd H d (.ext (Zdn d (putK kvs (some (v:Int)) (.ref e))))) d (b+1) m (setC c v f) P':=by
 have nd:∀{l:Addr}{xs:List V},H l=some (.lst xs)->l≠d:=λ{l xs} h z=>by rw[z,hk]at h;cases h
 refine⟨_,Zb,Yf (Zbr kvs (some (v:Int)) (.ref e)) (by omega),?_,λp hp=>?_⟩
 ·obtain⟨l,h1,h2⟩:=h0
  exact⟨l,by rw[ZbR,Yb (λz=>nomatch z)];exact h1,by rw[Zh (nd h2)];exact h2⟩
 ·by_cases z:p=v
  ·subst z
   exact⟨e,by rw[ZbR,Yc rfl],by rw[Zh (nd he),setC_same];exact he⟩
  ·rcases hs p hp with y|y
   ·obtain⟨l,h1,h2⟩:=hP p y
    exact⟨l,by rw[ZbR,Yb (λw=>z (by have:=Yy w;omega))];exact h1,by rw[Zh (nd h2),setC_ne z];exact h2⟩
   ·exact absurd y z
noncomputable def bitF:Nat->Nat
 |0=>1
 |h+1=>2*bitF h+4
theorem bitF_le:∀h,h<=13->bitF h<=100000:=by decide
theorem col_le {T:List Int}{m:Nat}{c:Nat->Nat->Nat}{p X:Nat}{ah bh:Option Nat} (h:∀j,j<=m->c p j=if j=m then 0 else cOf c ah (j+1)*cOf c bh j+c p (j+1)) (hX:∀j,j<m->cOf c ah (j+1)*cOf c bh j<=X):∀k,k<=m->c p (m-k)<=k*X
 |0,_=>by rw[h (m-0) (by omega),Yc (by omega)];exact Ym _
 |k+1,hk=>by
  have ih:=col_le (T:=T) h hX k (by omega)
  rw[h (m-(k+1)) (by omega),Yb (by omega),show m-(k+1)+1=m-k by omega,Nat.add_mul,Nat.one_mul]
  have:=hX (m-(k+1)) (by omega)
  rw[show m-(k+1)+1=m-k by omega]at this
  omega
theorem way_bits {ns T:List Int}{m:Nat}{c:Nat->Nat->Nat}{P:Nat->Prop} (hT:Zi ns T) (hm:m<=12) (hP:∀p,P p->p<T.length/\WayP T m c P p):∀h p,P p->T.length-(way T p).length<=h->∀j,j<=m->c p j<2 ^ bitF h:=by
 intro h
 induction h with
 |zero =>
  intro p hp hl
  have:=(hP p hp).1
  have hw:(way T p).length<=T.length:=Zfw _ _ _
  exfalso
  have e:=hT.1
  have h2:=way_nd hT _ p this (Yd _)
  have nd:(p::way T p).Nodup:=List.nodup_cons.mpr ⟨h2.2,h2.1⟩
  have:=nd_few (n:=T.length) nd (λq hq=>by
   rcases Yo.mp hq with z|z
   ·rw[z];omega
   ·have:=((Zaq hT (by omega)).mp z).1;omega)
  rw[Yn]at this
  omega
 |succ h ih =>
  intro p hp hl j hj
  obtain⟨hpT,ah,bh,hA,hB,hA2,hB2,heq⟩:=hP p hp
  have e:=hT.1
  have kid:∀o:Option Nat,(∀q,o=some q->P q/\nth T q=p/\q<T.length)->∀j,j<=m->cOf c o j<2 ^ bitF h:=λo ho j hj=>by
   cases o with
   |none =>
    show 1<2 ^ bitF h
    have:1<=bitF h:=by cases h<;>simp[bitF]<;>omega
    exact Nat.one_lt_two_pow (by omega)
   |some q =>
    obtain⟨a1,a2,a3⟩:=ho q rfl
    refine ih q a1 ?_ j hj
    rw[ZaS hT (by omega) a2,Yn];omega
  have k1:=kid ah (λq e=>by subst e;exact⟨hA2 q rfl,hA.2.2,hA.2.1⟩)
  have k2:=kid bh (λq e=>by subst e;exact⟨hB2 q rfl,hB.2.2,hB.2.1⟩)
  have:=col_le (T:=T) heq (X:=2 ^ bitF h*2 ^ bitF h) (λj hj=>Nat.mul_le_mul (YH (k1 (j+1) (by omega))) (YH (k2 j (by omega)))) (m-j) (by omega)
  rw[show m-(m-j)=j by omega]at this
  refine Ys this ?_
  rw[<-Nat.pow_add,show bitF (h+1)=(bitF h+bitF h)+4 by simp[bitF];omega,Nat.pow_add _ _ 4,Nat.mul_comm]
  exact Nat.mul_lt_mul_of_pos_left (by omega) (Nat.two_pow_pos _)
theorem mulBig {a b:Nat} (ha:a<2 ^ 100000) (hb:b<2 ^ 100000):IntMulOk (a:Int) (b:Int) :=
 Zeu (Yf ((intBits_le_iff (m:=100000)).mpr ha) (by decide)) (Yf ((intBits_le_iff (m:=100000)).mpr hb) (by decide))
theorem wayL_at {m j:Nat}{f:Nat->Nat} (h:j<=m):atI (wayL m f) (j:Int)=some (V.int ((f j:Nat):Int)):=Zb0 (by simp[wayL,show j<m+1 by omega])
theorem top_in {ns T:List Int} (hT:Zi ns T):∀k p,p<T.length->(way T p).length<=k->(-1:Int)∈T:=by
 intro k
 induction k with
 |zero =>
  intro p hp hk
  rcases way_step hT hp with⟨z,_⟩|⟨q,_,_,z⟩
  ·rw[<-z];exact nth_mem hp
  ·rw[z]at hk;simp at hk
 |succ k ih =>
  intro p hp hk
  rcases way_step hT hp with⟨z,_⟩|⟨q,_,hq,z⟩
  ·rw[<-z];exact nth_mem hp
  ·exact ih q hq (by rw[z,Yn]at hk;omega)
theorem WaysAt.updI {H:Hp}{x C dx d:Addr}{fs:List (Str×V)}{o:HO}{b m:Nat}{c:Nat->Nat->Nat}{P:Nat->Prop} (h:WaysAt H d b m c P) (hx:H x=some (.ins C dx fs)):WaysAt (upd H x o) d b m c P:=by
 obtain⟨kvs,w1,w0,⟨l0,w2,w3⟩,w4⟩:=h
 have n1:d≠x:=λz=>by rw[z,hx]at w1;cases w1
 have n2:∀{l:Addr}{xs:List V},H l=some (.lst xs)->l≠x:=λ{l xs} e z=>by rw[z,hx]at e;cases e
 exact⟨kvs,by rw[Zh n1];exact w1,w0,⟨l0,w2,by rw[Zh (n2 w3)];exact w3⟩,λp hp=>let ⟨l,a,e⟩:=w4 p hp;⟨l,a,by rw[Zh (n2 e)];exact e⟩⟩
theorem YoungAt.updI {H:Hp}{x C dx y:Addr}{fs:List (Str×V)}{o:HO}{T:List Int} (h:YoungAt H y T) (hx:H x=some (.ins C dx fs)):YoungAt (upd H x o) y T:=by
 obtain⟨as,h1,h2,h3⟩:=h
 have n2:∀{l:Addr}{xs:List V},H l=some (.lst xs)->l≠x:=λ{l xs} e z=>by rw[z,hx]at e;cases e
 exact⟨as,by rw[Zh (n2 h1)];exact h1,h2,λv a e=>let ⟨ah,bh,p1,p2,p3⟩:=h3 v a e;⟨ah,bh,p1,p2,by rw[Zh (n2 p3)];exact p3⟩⟩
theorem ahead_one {ns T:List Int} (hT:Zi ns T) {v:Nat}{a b:Option Nat} (h1:AheadIs T v a) (h2:AheadIs T v b):a=b:=by
 have e:=hT.1
 cases a with
 |none =>
  cases b with
  |none=>rfl
  |some q=>exact absurd h2.2.2 (h1 q h2.1 h2.2.1)
 |some p =>
  cases b with
  |none=>exact absurd h1.2.2 (h2 p h1.1 h1.2.1)
  |some q=>rw[ZoR hT (by have:=h1.2.1;omega) (by have:=h2.2.1;omega) h1.2.2 h2.2.2 h1.1 h2.1]
theorem behind_one {ns T:List Int} (hT:Zi ns T) {v:Nat}{a b:Option Nat} (h1:BehindIs T v a) (h2:BehindIs T v b):a=b:=by
 have e:=hT.1
 cases a with
 |none =>
  cases b with
  |none=>rfl
  |some q=>exact absurd h2.2.2 (h1 q h2.1 h2.2.1)
 |some p =>
  cases b with
  |none=>exact absurd h1.2.2 (h2 p h1.1 h1.2.1)
  |some q=>rw[Znq hT (by have:=h1.2.1;omega) (by have:=h2.2.1;omega) h1.2.2 h2.2.2 h1.1 h2.1]
theorem ways_one {ns T:List Int}{m:Nat}{c d:Nat->Nat->Nat} (hT:Zi ns T) (h1:WaysIs T m c) (h2:WaysIs T m d):∀h p,p<T.length->T.length-(way T p).length<=h->∀j,j<=m->c p j=d p j:=by
 have e:=hT.1
 intro h
 induction h with
 |zero =>
  intro p hp hl
  exfalso
  have h3:=way_nd hT _ p hp (Yd _)
  have nd:(p::way T p).Nodup:=List.nodup_cons.mpr ⟨h3.2,h3.1⟩
  have:=nd_few (n:=T.length) nd (λq hq=>by
   rcases Yo.mp hq with z|z
   ·rw[z];omega
   ·have:=((Zaq hT (by omega)).mp z).1;omega)
  rw[Yn]at this
  omega
 |succ h ih =>
  intro p hp hl
  obtain⟨ah,bh,a1,a2,a3⟩:=h1 p hp
  obtain⟨ah',bh',b1,b2,b3⟩:=h2 p hp
  obtain rfl:=ahead_one hT a1 b1
  obtain rfl:=behind_one hT a2 b2
  have kid:∀o:Option Nat,(∀q,o=some q->nth T q=p/\q<T.length)->∀j,j<=m->cOf c o j=cOf d o j:=λo ho j hj=>by
   cases o with
   |none=>rfl
   |some q =>
    obtain⟨x1,x2⟩:=ho q rfl
    refine ih q x2 ?_ j hj
    rw[ZaS hT (by omega) x1,Yn];omega
  have k1:=kid ah (λq e=>by subst e;exact⟨a1.2.2,a1.2.1⟩)
  have k2:=kid bh (λq e=>by subst e;exact⟨a2.2.2,a2.2.1⟩)
  have all:∀k,k<=m->c p (m-k)=d p (m-k):=by
   intro k
   induction k with
   |zero=>intro _;rw[a3 _ (by omega),b3 _ (by omega),Yc (by omega),Yc (by omega)]
   |succ k ihk =>
    intro hk
    rw[a3 _ (by omega),b3 _ (by omega),Yb (by omega),Yb (by omega),show m-(k+1)+1=m-k by omega,ihk (by omega),k1 (m-k) (by omega),k2 (m-(k+1)) (by omega)]
  intro j hj
  have:=all (m-j) (by omega)
  rw[show m-(m-j)=j by omega]at this
  exact this
theorem top_one {ns T:List Int}{m:Nat}{c d:Nat->Nat->Nat} (hT:Zi ns T) (h1:WaysIs T m c) (h2:WaysIs T m d):topC T c=topC T d:=by
 unfold topC
 by_cases z:T=[]
 ·rw[Yc z,Yc z]
 ·rw[Yb z,Yb z]
  have hm1:=top_in hT _ 0 (List.length_pos_iff.mpr z) (Yd _)
  exact ways_one hT h1 h2 _ _ (List.idxOf_lt_length_of_mem hm1) (Yd _) 0 (Ym _)
noncomputable def kidA (T:List Int) (p:Nat):Option Nat:=(List.range T.length).find? λc=>decide (c<p)&&(nth T c==(p:Int))
noncomputable def kidB (T:List Int) (p:Nat):Option Nat:=(List.range T.length).find? λc=>decide (p<c)&&(nth T c==(p:Int))
theorem kidA_is (T:List Int) (p:Nat):AheadIs T p (kidA T p):=by
 unfold kidA
 cases e:(List.range T.length).find? λc=>decide (c<p)&&(nth T c==(p:Int))with
 |none =>
  intro c c1 c2 z
  have:=List.find?_eq_none.mp e c (YC.mpr c2)
  simp[c1,z]at this
 |some c =>
  have h1:=List.find?_some e
  have h2:=YC.mp (List.mem_of_find?_eq_some e)
  simp at h1
  exact⟨h1.1,h2,h1.2⟩
theorem kidB_is (T:List Int) (p:Nat):BehindIs T p (kidB T p):=by
 unfold kidB
 cases e:(List.range T.length).find? λc=>decide (p<c)&&(nth T c==(p:Int))with
 |none =>
  intro c c1 c2 z
  have:=List.find?_eq_none.mp e c (YC.mpr c2)
  simp[c1,z]at this
 |some c =>
  have h1:=List.find?_some e
  have h2:=YC.mp (List.mem_of_find?_eq_some e)
  simp at h1
  exact⟨h1.1,h2,h1.2⟩
noncomputable def cF (T:List Int) (m:Nat):Nat->Nat->Nat->Nat
 |0,_,_=>0
 |h+1,p,j=>colS (cOf (cF T m h) (kidA T p)) (cOf (cF T m h) (kidB T p)) m (m-j)
theorem cF_fuel {ns T:List Int} (hT:Zi ns T) (m:Nat):∀h p,p<T.length->T.length-(way T p).length<=h->cF T m (h+1) p=cF T m h p:=by
 have e:=hT.1
 intro h
 induction h with
 |zero =>
  intro p hp hl
  exfalso
  have h3:=way_nd hT _ p hp (Yd _)
  have nd:(p::way T p).Nodup:=List.nodup_cons.mpr ⟨h3.2,h3.1⟩
  have:=nd_few (n:=T.length) nd (λq hq=>by
   rcases Yo.mp hq with z|z
   ·rw[z];omega
   ·have:=((Zaq hT (by omega)).mp z).1;omega)
  rw[Yn]at this
  omega
 |succ h ih =>
  intro p hp hl
  have kid:∀o:Option Nat,(∀q,o=some q->nth T q=p/\q<T.length)->cOf (cF T m (h+1)) o=cOf (cF T m h) o:=λo ho=>by
   cases o with
   |none=>rfl
   |some q =>
    obtain⟨x1,x2⟩:=ho q rfl
    have:=ih q x2 (by rw[ZaS hT (by omega) x1,Yn];omega)
    funext j
    exact congrFun this j
  have k1:=kid (kidA T p) (λq e=>by have:=kidA_is T p;rw[e]at this;exact⟨this.2.2,this.2.1⟩)
  have k2:=kid (kidB T p) (λq e=>by have:=kidB_is T p;rw[e]at this;exact⟨this.2.2,this.2.1⟩)
  funext j
  show colS (cOf (cF T m (h+1)) _) (cOf (cF T m (h+1)) _) m _=colS (cOf (cF T m h) _) (cOf (cF T m h) _) m _
  rw[k1,k2]
theorem cF_ways {ns T:List Int} (hT:Zi ns T) (m:Nat):WaysIs T m (cF T m T.length):=λp hp=>by
 refine⟨kidA T p,kidB T p,kidA_is T p,kidB_is T p,λj hj=>?_⟩
 have ef:=cF_fuel hT m T.length p hp (by omega)
 have e1:∀j,cF T m T.length p j=colS (cOf (cF T m T.length) (kidA T p)) (cOf (cF T m T.length) (kidB T p)) m (m-j):=λj=>by
  conv=>lhs;rw[<-ef]
  rfl
 rw[e1 j,e1 (j+1)]
 by_cases z:j=m
 ·subst z;simp[colS]
 ·rw[Yb z,show m-j=(m-(j+1))+1 by omega]
  show colS _ _ m (m-(j+1))+_=_
  rw[show m-(m-(j+1))=j+1 by omega,show m-1-(m-(j+1))=j by omega]
  omega
noncomputable def sumTo (f:Nat->Nat):Nat->Nat
 |0=>0
 |k+1=>sumTo f k+f k
theorem sumTo_ext {f g:Nat->Nat}:∀k,(∀i,i<k->f i=g i)->sumTo f k=sumTo g k
 |0,_=>rfl
 |k+1,h=>by
  show sumTo f k+f k=sumTo g k+g k
  rw[sumTo_ext k λi hi=>h i (by omega),h k (by omega)]
theorem sumTo_mono {f:Nat->Nat}{a:Nat}:∀b,a<=b->sumTo f a<=sumTo f b
 |0,h=>by rw[show a=0 by omega];exact Yd _
 |b+1,h=>by
  by_cases e:a=b+1
  ·rw[e];exact Yd _
  ·exact Yf (sumTo_mono b (by omega)) (Nat.le_add_right _ _)
theorem sumTo_swap {g al C:Nat->Nat}{m:Nat} (hC:∀j,j<m->C j=al j+C (j+1)) (h0:C m=0):sumTo (λz=>sumTo g z*al z) m=sumTo (λy=>g y*C (y+1)) m:=by
 have key:∀k,k<=m->sumTo (λz=>sumTo g z*al z) k+sumTo g k*C k=sumTo (λy=>g y*C (y+1)) k:=by
  intro k
  induction k with
  |zero=>intro _;simp[sumTo]
  |succ k ih =>
   intro hk
   have h1:=ih (by omega)
   rw[hC k (by omega),Nat.mul_add]at h1
   show sumTo (λz=>sumTo g z*al z) k+sumTo g k*al k+(sumTo g k+g k)*C (k+1)=sumTo (λy=>g y*C (y+1)) k+g k*C (k+1)
   rw[<-h1,Nat.add_mul]
   omega
 have:=key m (Yd _)
 rw[h0,Nat.mul_zero,Nat.add_zero]at this
 exact this
theorem sumTo_from {al C:Nat->Nat}{m x N:Nat} (hx:x<=m) (hC:∀j,j<m->C j=al j+C (j+1)) (h0:C m=0):sumTo (λy=>(if y<x then 0 else N)*al y) m=N*C x:=by
 have key:∀k,k<=m->sumTo (λy=>(if y<x then 0 else N)*al y) k+N*C (max k x)=N*C x:=by
  intro k
  induction k with
  |zero=>intro _;simp[sumTo]
  |succ k ih =>
   intro hk
   have h1:=ih (by omega)
   show sumTo (λy=>(if y<x then 0 else N)*al y) k+(if k<x then 0 else N)*al k+N*C (max (k+1) x)=N*C x
   by_cases z:k<x
   ·rw[Yc z,Nat.zero_mul,Nat.add_zero,show max (k+1) x=max k x by omega];exact h1
   ·rw[show max k x=k by omega,hC k (by omega),Nat.mul_add]at h1
    rw[Yb z,show max (k+1) x=k+1 by omega]
    omega
 have:=key m (Yd _)
 rw[show max m x=m by omega,h0,Nat.mul_zero,Nat.add_zero]at this
 exact this
noncomputable def OF (T:List Int) (c:Nat->Nat->Nat) (f:Nat->Nat):Nat->Nat->Nat->Nat
 |0,_,_=>0
 |h+1,p,x=>if nth T p=-1 then 1 else if (p:Int)<nth T p then sumTo (λy=>OF T c f h (nth T p).toNat y*cOf c (kidB T (nth T p).toNat) y) x else if x<f (nth T p).toNat then 0 else OF T c f h (nth T p).toNat (f (nth T p).toNat)
theorem OF_fuel {ns T:List Int} (hT:Zi ns T) (c:Nat->Nat->Nat) (f:Nat->Nat):∀h p,p<T.length->(way T p).length<h->OF T c f (h+1) p=OF T c f h p:=by
 have e:=hT.1
 intro h
 induction h with
 |zero=>intro p _ z;omega
 |succ h ih =>
  intro p hp hl
  funext x
  show(if _ then _ else _)=(if _ then _ else _)
  rcases way_step hT hp with⟨z,_⟩|⟨q,z,hq,zw⟩
  ·rw[Yc z,Yc z]
  ·have n1:nth T p≠-1:=by omega
   have i1:=ih q hq (by rw[zw,Yn]at hl;omega)
   rw[Yb n1,Yb n1,z,show((q:Nat):Int).toNat=q by omega,i1]
noncomputable def oW (T:List Int) (c:Nat->Nat->Nat) (f:Nat->Nat) (p x:Nat):Nat:=OF T c f (T.length+1) p x
noncomputable def nW (T:List Int) (c:Nat->Nat->Nat) (f:Nat->Nat) (p x:Nat):Nat:=oW T c f p x*cOf c (kidB T p) x
theorem way_lt {ns T:List Int} (hT:Zi ns T) {p:Nat} (hp:p<T.length):(way T p).length<T.length:=by
 have e:=hT.1
 have h3:=way_nd hT _ p hp (Yd _)
 have nd:(p::way T p).Nodup:=List.nodup_cons.mpr ⟨h3.2,h3.1⟩
 have:=nd_few (n:=T.length) nd (λq hq=>by
  rcases Yo.mp hq with z|z
  ·rw[z];omega
  ·have:=((Zaq hT (by omega)).mp z).1;omega)
 rw[Yn]at this
 omega
theorem oW_step {ns T:List Int} (hT:Zi ns T) (c:Nat->Nat->Nat) (f:Nat->Nat) {p:Nat} (hp:p<T.length) (x:Nat):oW T c f p x=if nth T p=-1 then 1 else if (p:Int)<nth T p then sumTo (nW T c f (nth T p).toNat) x else if x<f (nth T p).toNat then 0 else oW T c f (nth T p).toNat (f (nth T p).toNat):=by
 show(if _ then _ else _)=(if _ then _ else _)
 rcases way_step hT hp with⟨z,_⟩|⟨q,z,hq,zw⟩
 ·rw[Yc z,Yc z]
 ·have n1:nth T p≠-1:=by omega
  have i1:=OF_fuel hT c f T.length q hq (way_lt hT hq)
  unfold nW oW
  rw[Yb n1,Yb n1,z,show((q:Nat):Int).toNat=q by omega,<-i1]
theorem oW_top {ns T:List Int} (hT:Zi ns T) {c:Nat->Nat->Nat}{f:Nat->Nat}{p x:Nat} (hp:p<T.length) (h:nth T p=-1):oW T c f p x=1:=by
 rw[oW_step hT c f hp,Yc h]
theorem oW_left {ns T:List Int} (hT:Zi ns T) {c:Nat->Nat->Nat}{f:Nat->Nat}{p x e:Nat} (hp:p<T.length) (h:nth T p=e) (hl:p<e):oW T c f p x=sumTo (nW T c f e) x:=by
 rw[oW_step hT c f hp,Yb (by omega),Yc (by omega),h,show((e:Nat):Int).toNat=e by omega]
theorem oW_right {ns T:List Int} (hT:Zi ns T) {c:Nat->Nat->Nat}{f:Nat->Nat}{p x e:Nat} (hp:p<T.length) (h:nth T p=e) (hl:e<=p):oW T c f p x=if x<f e then 0 else oW T c f e (f e):=by
 rw[oW_step hT c f hp,Yb (by omega),Yb (by omega),h,show((e:Nat):Int).toNat=e by omega]
noncomputable def UpTo (T:List Int) (p k:Nat):Prop:=∀q∈p::way T p,∀e:Nat,nth T q=e->e<q->e<k
theorem UpTo.mono {T:List Int}{p k k':Nat} (h:UpTo T p k) (hk:k<=k'):UpTo T p k':=λq hq e he hl=>Yu (h q hq e he hl) hk
theorem UpTo.up {ns T:List Int} (hT:Zi ns T) {p e k:Nat} (hp:p<T.length) (he:nth T p=e) (h:UpTo T p k):UpTo T e k:=λq hq=>h q (by
 have:=hT.1
 rw[ZaS hT (by omega) he];exact YK _ hq)
theorem oW_congr {ns T:List Int} (hT:Zi ns T) {c:Nat->Nat->Nat}{f g:Nat->Nat}{k:Nat} (hf:∀i,i<k->f i=g i):∀d p,p<T.length->(way T p).length<=d->UpTo T p k->oW T c f p=oW T c g p:=by
 have eT:=hT.1
 intro d
 induction d with
 |zero =>
  intro p hp hd _
  funext x
  rcases way_step hT hp with⟨z,_⟩|⟨q,z,hq,zw⟩
  ·rw[oW_top hT hp z,oW_top hT hp z]
  ·rw[zw]at hd;simp at hd
 |succ d ih =>
  intro p hp hd hu
  funext x
  rcases way_step hT hp with⟨z,_⟩|⟨q,z,hq,zw⟩
  ·rw[oW_top hT hp z,oW_top hT hp z]
  ·have i1:=ih q hq (by rw[zw,Yn]at hd;omega) (hu.up hT hp z)
   by_cases hl:p<q
   ·rw[oW_left hT hp z hl,oW_left hT hp z hl]
    exact sumTo_ext x λy _=>by unfold nW;rw[i1]
   ·have npq:q≠p:=λy=>by
     subst y
     have:=(way_nd hT _ q hp (Yd _)).2
     rw[zw]at this
     exact this (by simp)
    have:=hu p (by simp) q z (by omega)
    rw[oW_right hT hp z (by omega),oW_right hT hp z (by omega),hf q this,i1]
theorem nW_congr {ns T:List Int} (hT:Zi ns T) {c:Nat->Nat->Nat}{f g:Nat->Nat}{k p:Nat} (hf:∀i,i<k->f i=g i) (hp:p<T.length) (hu:UpTo T p k):nW T c f p=nW T c g p:=by
 funext x;unfold nW;rw[oW_congr hT hf _ p hp (Yd _) hu]
theorem up_next {ns T:List Int} (hT:Zi ns T) {k:Nat} (hk:k<T.length):UpTo T k k:=λq hq e he hl=>by
 have eT:=hT.1
 rcases Yo.mp hq with rfl|hq
 ·exact hl
 ·obtain⟨h1,h2⟩:=(Zaq hT (by omega)).mp hq
  rcases Nat.lt_or_ge e k with z|z
  ·exact z
  ·exfalso
   obtain⟨a1,a2,a3,a4⟩:=ZbO hT h1 he hl
   have:=ZfB (f:=nth ns) (n:=ns.length) h1
   rcases h2 with⟨y1,y2⟩|⟨y1,y2⟩
   ·omega
   ·have hO:Over (nth ns) e q:=((Zaq hT h1).mp (by rw[ZaS hT h1 he];simp)).2
    rcases hO with⟨w1,w2⟩|⟨w1,w2⟩
    ·rcases Nat.eq_or_lt_of_le z with rfl|z
     ·have:=y2 k (Yd _) y1
      have:=w2 q (by omega) (Yd _)
      omega
     ·have h3:=y2 e (by omega) hl
      have h4:=w2 q (by omega) (Yd _)
      omega
    ·omega
noncomputable def abV (T:List Int) (m:Nat) (f:Nat->Nat) (k:Nat):Nat:=match kidA T k with|none=>m|some a=>f a
noncomputable def vW (T:List Int) (m:Nat) (c:Nat->Nat->Nat) (f:Nat->Nat) (k:Nat):Nat:=if k=T.length then 1 else sumTo (nW T c f k) (abV T m f k)
noncomputable def PreOk (T:List Int) (m:Nat) (f:Nat->Nat) (k:Nat):Prop:=∀q,q<k->f q<m/\∀e:Nat,nth T q=e->(e<q->f e<=f q)/\(q<e->e<k->f e<f q)
theorem kidA_none {T:List Int}{p:Nat} (h:kidA T p=none):∀c,c<p->c<T.length->nth T c≠p:=by
 have:=kidA_is T p;rw[h]at this;exact this
theorem kidB_none {T:List Int}{p:Nat} (h:kidB T p=none):∀c,p<c->c<T.length->nth T c≠p:=by
 have:=kidB_is T p;rw[h]at this;exact this
theorem kidA_some {T:List Int}{p a:Nat} (h:kidA T p=some a):a<p/\a<T.length/\nth T a=p:=by
 have:=kidA_is T p;rw[h]at this;exact this
theorem kidB_some {T:List Int}{p a:Nat} (h:kidB T p=some a):p<a/\a<T.length/\nth T a=p:=by
 have:=kidB_is T p;rw[h]at this;exact this
theorem ways_at {ns T:List Int}{m:Nat}{c:Nat->Nat->Nat} (hT:Zi ns T) (hW:WaysIs T m c) {p:Nat} (hp:p<T.length):(∀j,j<m->c p j=cOf c (kidA T p) (j+1)*cOf c (kidB T p) j+c p (j+1))/\c p m=0:=by
 obtain⟨ah,bh,h1,h2,h3⟩:=hW p hp
 obtain rfl:=ahead_one hT h1 (kidA_is T p)
 obtain rfl:=behind_one hT h2 (kidB_is T p)
 exact⟨λj hj=>by rw[h3 j (by omega),Yb (by omega)],by rw[h3 m (Yd _),Yc rfl]⟩
theorem no_left {ns T:List Int} (hT:Zi ns T) {p:Nat} (hp:p<T.length) (h:kidA T p=none):Zax (nth ns) p=(p:Int)-1:=by
 have eT:=hT.1
 obtain⟨c1,_,c3,_⟩:=ZR hT (p:=p) (by omega)
 have:¬ 0<ZI (nth ns) p:=λz=>by
  obtain⟨q,q1,q2⟩:=ZkJ hT (by omega) z
  exact kidA_none h q q1 (by omega) q2
 omega
theorem no_right {ns T:List Int} (hT:Zi ns T) {p:Nat} (hp:p<T.length) (h:kidB T p=none):ZaB (nth ns) ns.length p=(p:Int)+1:=by
 have eT:=hT.1
 obtain⟨_,c1,_,c3⟩:=ZR hT (p:=p) (by omega)
 have:¬ 0<ZY (nth ns) ns.length p:=λz=>by
  obtain⟨q,q1,q2,q3⟩:=Zi4 hT (by omega) z
  exact kidB_none h q q1 (by omega) q3
 omega
theorem top_fen {ns T:List Int} (hT:Zi ns T) {p:Nat} (hp:p<T.length) (h:nth T p=-1):Zax (nth ns) p=-1/\ZaB (nth ns) ns.length p=ns.length:=by
 have eT:=hT.1
 have hE:=hT.2 p (by omega)
 rw[show T.getD p 0=-1 from h]at hE
 rcases hE with⟨z1,z2,_⟩|⟨x,_,_,z⟩|⟨r,_,_,z⟩|⟨x,r,_,_,z⟩
 ·exact⟨Zaj z1,Zac z2⟩
 ·omega
 ·omega
 ·split at z<;>omega
theorem down {ns T:List Int}{m:Nat}{c:Nat->Nat->Nat} (hT:Zi ns T) (hW:WaysIs T m c) (f:Nat->Nat) {k:Nat} (hk:k<T.length):∀d p,p<T.length->p<=d->Zax (nth ns) p=(k:Int)-1->sumTo (λy=>oW T c f p y*(cOf c (kidA T p) (y+1)*cOf c (kidB T p) y)) m=vW T m c f k:=by
 have eT:=hT.1
 intro d
 induction d with
 |zero =>
  intro p hp hd hF
  have b:=ZfB (f:=nth ns) (n:=ns.length) (p:=p) (by omega)
  have e0:p=k:=by omega
  subst e0
  cases hA:kidA T p with
  |some a=>have:=(kidA_some hA).1;omega
  |none =>
   unfold vW abV
   rw[Yb (by omega),hA]
   exact sumTo_ext m λy _=>by unfold nW;simp[cOf]
 |succ d ih =>
  intro p hp hd hF
  cases hA:kidA T p with
  |none =>
   have:=no_left hT hp hA
   have e0:p=k:=by omega
   subst e0
   unfold vW abV
   rw[Yb (by omega),hA]
   exact sumTo_ext m λy _=>by unfold nW;simp[cOf]
  |some a =>
   obtain⟨a1,a2,a3⟩:=kidA_some hA
   obtain⟨_,b1,_⟩:=ZdD hT (q:=a) (by omega) a3 a1
   rw[<-ih a a2 (by omega) (by rw[b1,hF])]
   have e1:(λy=>oW T c f a y*(cOf c (kidA T a) (y+1)*cOf c (kidB T a) y))=λy=>sumTo (nW T c f p) y*(cOf c (kidA T a) (y+1)*cOf c (kidB T a) y):=by
    funext y;rw[oW_left hT a2 a3 a1]
   obtain⟨w1,w2⟩:=ways_at hT hW a2
   rw[e1,sumTo_swap (C:=c a) w1 w2]
   refine sumTo_ext m λy _=>?_
   show oW T c f p y*(c a (y+1)*cOf c (kidB T p) y)=oW T c f p y*cOf c (kidB T p) y*c a (y+1)
   rw[Nat.mul_assoc,Nat.mul_comm (c a (y+1))]
theorem upward {ns T:List Int}{m:Nat}{c:Nat->Nat->Nat} (hT:Zi ns T) {f:Nat->Nat}{k:Nat} (hk:k<T.length) (hf:PreOk T m f (k+1)):∀d p,p<=k->(way T p).length<=d->ZaB (nth ns) ns.length p=(k:Int)+1->oW T c f p (f p)=vW T m c f (k+1):=by
 have eT:=hT.1
 intro d
 induction d with
 |zero =>
  intro p hp hd hF
  rcases way_step hT (p:=p) (by omega)with⟨z,_⟩|⟨q,z,hq,zw⟩
  ·have:=(top_fen hT (p:=p) (by omega) z).2
   rw[oW_top hT (by omega) z]
   unfold vW;rw[Yc (by omega)]
  ·rw[zw]at hd;simp at hd
 |succ d ih =>
  intro p hp hd hF
  rcases way_step hT (p:=p) (by omega)with⟨z,_⟩|⟨q,z,hq,zw⟩
  ·have:=(top_fen hT (p:=p) (by omega) z).2
   rw[oW_top hT (by omega) z]
   unfold vW;rw[Yc (by omega)]
  ·by_cases hl:p<q
   ·obtain⟨_,_,b2,_⟩:=ZdD hT (q:=p) (by omega) z hl
    have e1:q=k+1:=by omega
    subst e1
    rw[oW_left hT (by omega) z hl]
    unfold vW abV
    have:kidA T (k+1)=some p:=ahead_one hT (kidA_is T (k+1)) (show AheadIs T (k+1) (some p)from⟨hl,by omega,z⟩)
    rw[Yb (by omega),this]
   ·have npq:q≠p:=λy=>by
     subst y
     have:=(way_nd hT _ q (by omega) (Yd _)).2
     rw[zw]at this
     exact this (by simp)
    obtain⟨_,b2,_⟩:=ZbO hT (q:=p) (by omega) z (by omega)
    have h1:=((hf p (by omega)).2 q z).1 (by omega)
    rw[oW_right hT (by omega) z (by omega),Yb (by omega)]
    exact ih q (by omega) (by rw[zw,Yn]at hd;omega) (by rw[<-b2,hF])
theorem vW_next {ns T:List Int}{m:Nat}{c:Nat->Nat->Nat} (hT:Zi ns T) (hW:WaysIs T m c) {f:Nat->Nat}{k:Nat} (hk:k<T.length) (hf:PreOk T m f (k+1)):vW T m c f (k+1)=nW T c f k (f k):=by
 have eT:=hT.1
 have hm:=(hf k (by omega)).1
 unfold nW
 cases hB:kidB T k with
 |none =>
  rw[show cOf c none (f k)=1 from rfl,Nat.mul_one]
  exact(upward hT hk hf _ k (Yd _) (Yd _) (no_right hT hk hB)).symm
 |some b =>
  obtain⟨b1,b2,b3⟩:=kidB_some hB
  obtain⟨f1,_⟩:=ZbO hT (q:=b) (by omega) b3 b1
  rw[<-down hT hW f (k:=k+1) (by omega) b b b2 (Yd _) (by rw[f1];omega)]
  obtain⟨w1,w2⟩:=ways_at hT hW b2
  have e1:(λy=>oW T c f b y*(cOf c (kidA T b) (y+1)*cOf c (kidB T b) y))=λy=>(if y<f k then 0 else oW T c f k (f k))*(cOf c (kidA T b) (y+1)*cOf c (kidB T b) y):=by
   funext y;rw[oW_right hT b2 b3 (by omega)]
  rw[e1,sumTo_from (C:=c b) (by omega) w1 w2]
  rfl
theorem vW_zero {ns T:List Int}{m:Nat}{c:Nat->Nat->Nat} (hT:Zi ns T) (hW:WaysIs T m c) (f:Nat->Nat):vW T m c f 0=topC T c:=by
 have eT:=hT.1
 unfold topC
 by_cases z:T=[]
 ·rw[Yc z];unfold vW;rw[Yc (by rw[z];rfl)]
 ·have h0:=List.length_pos_iff.mpr z
  have hm1:=top_in hT _ 0 h0 (Yd _)
  have ht:=List.idxOf_lt_length_of_mem hm1
  have ht2:nth T (T.idxOf (-1))=-1:=by
   unfold nth
   rw[Yg,Yh ht]
   simp
  rw[Yb z]
  have f1:=(top_fen hT ht ht2).1
  rw[<-down hT hW f h0 _ _ ht (Yd _) (by rw[f1];rfl)]
  obtain⟨w1,w2⟩:=ways_at hT hW ht
  have:=sumTo_from (x:=0) (N:=1) (Ym m) w1 w2
  rw[Nat.one_mul]at this
  rw[<-this]
  refine sumTo_ext m λy _=>?_
  rw[oW_top hT ht ht2,Yb (by omega)]
noncomputable def rkT (T:List Int) (c:Nat->Nat->Nat) (f:Nat->Nat) (k:Nat):Nat->Nat
 |0=>0
 |j+1=>sumTo (nW T c f k) (f k)+rkT T c f (k+1) j
noncomputable def rkF (T:List Int) (c:Nat->Nat->Nat) (f:Nat->Nat):Nat->Nat
 |0=>0
 |k+1=>rkF T c f k+sumTo (nW T c f k) (f k)
theorem rk_split (T:List Int) (c:Nat->Nat->Nat) (f:Nat->Nat):∀j k,rkF T c f (k+j)=rkF T c f k+rkT T c f k j
 |0,k=>by simp[rkT]
 |j+1,k=>by
  rw[show k+(j+1)=(k+1)+j by omega,rk_split T c f j (k+1)]
  show rkF T c f k+_+_=rkF T c f k+(_+_)
  omega
theorem PreOk.le {T:List Int}{m:Nat}{f:Nat->Nat}{k j:Nat} (h:PreOk T m f k) (hj:j<=k):PreOk T m f j:=λq hq=>⟨(h q (by omega)).1,λe he=>⟨((h q (by omega)).2 e he).1,λh1 h2=>((h q (by omega)).2 e he).2 h1 (by omega)⟩⟩
theorem PreOk.ab {ns T:List Int} (hT:Zi ns T) {m:Nat}{f:Nat->Nat}{k:Nat} (h:PreOk T m f (k+1)):f k<abV T m f k:=by
 unfold abV
 cases hA:kidA T k with
 |none=>exact(h k (by omega)).1
 |some a =>
  obtain⟨a1,a2,a3⟩:=kidA_some hA
  exact((h a (by omega)).2 k a3).2 a1 (by omega)
theorem rk_tail {ns T:List Int}{m:Nat}{c:Nat->Nat->Nat} (hT:Zi ns T) (hW:WaysIs T m c) {f:Nat->Nat} (hf:PreOk T m f T.length):∀j k,k+j=T.length->rkT T c f k j<vW T m c f k
 |0,k,h=>by unfold vW;rw[Yc (by omega)];exact Nat.zero_lt_one
 |j+1,k,h=>by
  have ih:=rk_tail hT hW hf j (k+1) (by omega)
  rw[vW_next hT hW (by omega) (hf.le (by omega))]at ih
  have h1:=(hf.le (show k+1<=T.length by omega)).ab hT
  have h2:sumTo (nW T c f k) (f k+1)<=sumTo (nW T c f k) (abV T m f k):=sumTo_mono _ h1
  show sumTo (nW T c f k) (f k)+_ < _
  rw[show vW T m c f k=sumTo (nW T c f k) (abV T m f k) by unfold vW;rw[Yb (by omega)]]
  have h3:sumTo (nW T c f k) (f k+1)=sumTo (nW T c f k) (f k)+nW T c f k (f k):=rfl
  omega
theorem rk_lt {ns T:List Int}{m:Nat}{c:Nat->Nat->Nat} (hT:Zi ns T) (hW:WaysIs T m c) {f:Nat->Nat} (hf:PreOk T m f T.length):rkF T c f T.length<topC T c:=by
 have:=rk_tail hT hW hf T.length 0 (by omega)
 rw[vW_zero hT hW]at this
 have e:=rk_split T c f T.length 0
 rw[Nat.zero_add]at e
 rw[e]
 show 0+_ < _
 omega
theorem rkF_congr {ns T:List Int} (hT:Zi ns T) {c:Nat->Nat->Nat}{f g:Nat->Nat}:∀k,k<=T.length->(∀i,i<k->f i=g i)->rkF T c f k=rkF T c g k
 |0,_,_=>rfl
 |k+1,hk,h=>by
  show rkF T c f k+sumTo (nW T c f k) (f k)=rkF T c g k+sumTo (nW T c g k) (g k)
  rw[rkF_congr hT k (by omega) λi hi=>h i (by omega),h k (by omega),nW_congr hT (λi hi=>h i (by omega)) (by omega) (up_next hT (by omega))]
theorem rk_mono {ns T:List Int}{m:Nat}{c:Nat->Nat->Nat} (hT:Zi ns T) (hW:WaysIs T m c) {f g:Nat->Nat} (hf:PreOk T m f T.length) (d:Nat) (hd:d<T.length) (he:∀i,i<d->f i=g i) (hl:f d<g d):rkF T c f T.length<rkF T c g T.length:=by
 have e1:=rk_split T c f (T.length-(d+1)) (d+1)
 have e2:=rk_split T c g (T.length-(d+1)) (d+1)
 rw[show d+1+(T.length-(d+1))=T.length by omega]at e1 e2
 have t1:=rk_tail hT hW hf (T.length-(d+1)) (d+1) (by omega)
 rw[vW_next hT hW hd (hf.le (by omega))]at t1
 have f1:rkF T c f (d+1)=rkF T c f d+sumTo (nW T c f d) (f d):=rfl
 have f2:rkF T c g (d+1)=rkF T c g d+sumTo (nW T c g d) (g d):=rfl
 rw[<-rkF_congr hT d (by omega) he,<-nW_congr hT he hd (up_next hT hd)]at f2
 have h2:sumTo (nW T c f d) (f d+1)<=sumTo (nW T c f d) (g d):=sumTo_mono _ hl
 have h3:sumTo (nW T c f d) (f d+1)=sumTo (nW T c f d) (f d)+nW T c f d (f d):=rfl
 omega
theorem rk_inj {ns T:List Int}{m:Nat}{c:Nat->Nat->Nat} (hT:Zi ns T) (hW:WaysIs T m c) {f g:Nat->Nat} (hf:PreOk T m f T.length) (hg:PreOk T m g T.length) (h:rkF T c f T.length=rkF T c g T.length):∀d,d<=T.length->∀i,i<d->f i=g i
 |0,_,i,hi=>by omega
 |d+1,hd,i,hi=>by
  have ih:=rk_inj hT hW hf hg h d (by omega)
  by_cases e:i<d
  ·exact ih i e
  ·have:i=d:=by omega
   subst this
   rcases Nat.lt_trichotomy (f i) (g i)with z|z|z
   ·have:=rk_mono hT hW hf i hd ih z;omega
   ·exact z
   ·have:=rk_mono hT hW hg i hd (λj hj=>(ih j hj).symm) z;omega
theorem PreOk.more {ns T:List Int} (hT:Zi ns T) {m:Nat}{c:Nat->Nat->Nat}{f:Nat->Nat}{k:Nat} (hk:k<T.length) (h:PreOk T m f k) (hx:f k<abV T m f k) (hp:0<nW T c f k (f k)):PreOk T m f (k+1):=by
 have hab:abV T m f k<=m:=by
  unfold abV
  cases hA:kidA T k with
  |none=>exact Yd _
  |some a=>exact YH (h a (kidA_some hA).1).1
 intro q hq
 by_cases z:q=k
 ·subst z
  refine⟨by omega,λe he=>⟨λh1=>?_,λh1 h2=>by omega⟩⟩
  rcases Nat.lt_or_ge (f q) (f e)with y|y
  ·exfalso
   unfold nW at hp
   rw[oW_right hT hk he (by omega),Yc y]at hp
   omega
  ·exact y
 ·obtain⟨h1,h2⟩:=h q (by omega)
  refine⟨h1,λe he=>⟨(h2 e he).1,λh3 h4=>?_⟩⟩
  by_cases y:e=k
  ·subst y
   have:kidA T e=some q:=ahead_one hT (kidA_is T e) (show AheadIs T e (some q)from⟨h3,by omega,he⟩)
   unfold abV at hx
   rw[this]at hx
   exact hx
  ·exact(h2 e he).2 h3 (by omega)
noncomputable def fnR (r:List Nat):Nat->Nat:=λi=>r.getD i 0
noncomputable def outL (m:Nat) (g:Nat->Nat):List V:=(List.range m).map λj=>V.int ((g j:Nat):Int)
noncomputable def rowV (r:List Nat):List V:=r.map λi=>V.int ((i:Nat):Int)
noncomputable def cntK (kvs:List (Key×V)):Nat->Nat
 |0=>0
 |n+1=>cntK kvs n+if (Zag kvs (.inl (n:Int))).isSome then 1 else 0
theorem cntK_le (kvs:List (Key×V)):∀n,cntK kvs n<=n
 |0=>Yd _
 |n+1=>by
  have:=cntK_le kvs n
  show cntK kvs n+(if _ then 1 else 0)<=n+1
  split<;>omega
theorem cntK_ext {kvs kvs':List (Key×V)}:∀n,(∀q:Nat,q<n->(Zag kvs' (.inl (q:Int))).isSome=(Zag kvs (.inl (q:Int))).isSome)->cntK kvs' n=cntK kvs n
 |0,_=>rfl
 |n+1,h=>by
  show cntK kvs' n+_=cntK kvs n+_
  rw[cntK_ext n λq hq=>h q (by omega),h n (by omega)]
theorem cntK_new {kvs kvs':List (Key×V)}{p:Nat} (h0:Zag kvs (.inl (p:Int))=none) (h1:(Zag kvs' (.inl (p:Int))).isSome=true):∀n,(∀q:Nat,q≠p->(Zag kvs' (.inl (q:Int))).isSome=(Zag kvs (.inl (q:Int))).isSome)->p<n->cntK kvs' n=cntK kvs n+1
 |0,_,z=>by omega
 |n+1,h,hp=>by
  show cntK kvs' n+_=cntK kvs n+_+1
  by_cases e:p=n
  ·subst e
   rw[cntK_ext (kvs:=kvs) (kvs':=kvs') p λq hq=>h q (by omega),h0,h1]
   simp
  ·rw[cntK_new h0 h1 n h (by omega),h n (λz=>e z.symm)]
   omega
theorem cnt_put {kvs:List (Key×V)}{n p:Nat}{v:V} (h:kvs.length<=cntK kvs n) (hp:p<n):(putK kvs (.inl (p:Int)) v).length<=cntK (putK kvs (.inl (p:Int)) v) n:=by
 have hv:∀q:Nat,q≠p->(Zag (putK kvs (.inl (p:Int)) v) (.inl (q:Int))).isSome=(Zag kvs (.inl (q:Int))).isSome:=λq hq=>by
  rw[ZbR,Yb (λz=>hq (by have:=Sum.inl.inj z;omega))]
 have hp2:(Zag (putK kvs (.inl (p:Int)) v) (.inl (p:Int))).isSome=true:=by rw[ZbR,Yc rfl];rfl
 cases e:Zag kvs (.inl (p:Int))with
 |none =>
  rw[cntK_new e hp2 n hv hp]
  have:=Zbr kvs (.inl (p:Int)) v
  omega
 |some y =>
  have hs:(Zag kvs (.inl (p:Int))).isSome=true:=by rw[e];rfl
  have hl:(putK kvs (.inl (p:Int)) v).length=kvs.length:=by
   have ha:=ZdB (.inl (p:Int)) kvs
   unfold putK
   rw[Yc (by rw[ha,hs]),Yi]
  rw[hl,cntK_ext (kvs:=kvs) n λq _=>by
   by_cases z:q=p
   ·subst z;rw[hp2,hs]
   ·exact hv q z]
  exact h
noncomputable def OutsAt (H:Hp) (kvs:List (Key×V)) (T:List Int) (m:Nat) (c:Nat->Nat->Nat) (r:List Nat):Prop:=∀p:Nat,p<T.length->∀v,Zag kvs (.inl (p:Int))=some v->UpTo T p r.length/\∃l:Addr,v=.ref l/\H l=some (.lst (outL m (oW T c (fnR r) p)))
structure Fa where
 x:Addr
 t:Addr
 y:Addr
 d:Addr
 o:Addr
 rl:Addr
noncomputable def FldsOk (fs:List (Str×V)) (a:Fa) (m:Nat):Prop:=fs.lookup (Str.ofString "tree")=some (.ref a.t)/\fs.lookup (Str.ofString "most")=some (.int m)/\fs.lookup (Str.ofString "young")=some (.ref a.y)/\fs.lookup (Str.ofString "spans")=some (.ref a.d)/\fs.lookup (Str.ofString "outsides")=some (.ref a.o)/\fs.lookup (Str.ofString "row")=some (.ref a.rl)/\fs.lookup (Str.ofString "how_many_rows")=none/\fs.lookup (Str.ofString "outside_ways")=none/\fs.lookup (Str.ofString "outside_by_elder")=none/\fs.lookup (Str.ofString "onward_ways")=none/\fs.lookup (Str.ofString "next_ways")=none
noncomputable def TupH (H:Hp) (t:Addr) (ys:List V):Prop:=H t=some (.tup ys)\/ZeY H t ys
theorem tupH_same {H H':Hp}{t:Addr}{ys:List V} (h:TupH H t ys) (s:Zf H H'):TupH H' t ys:=h.elim (λe=>.inl (s _ _ e)) λe=>.inr (e.same s)
theorem tupH_sq {K:PySem.W.Frag}{H:Hp}{t:Addr}{ys:List V} (h:TupH H t ys):SqT K H t ys:=h.elim SqT.of ZeY.sq
theorem youngAt_same {H H':Hp}{y:Addr}{T:List Int} (h:YoungAt H y T) (s:Zf H H'):YoungAt H' y T:=by
 obtain⟨as,h1,h2,h3⟩:=h
 exact⟨as,s _ _ h1,h2,λv a e=>let ⟨ah,bh,p1,p2,p3⟩:=h3 v a e;⟨ah,bh,p1,p2,s _ _ p3⟩⟩
noncomputable def FillS (mg:Str->Option Value) (S:Hp) (a:Fa) (T:List Int) (m:Nat) (c:Nat->Nat->Nat) (r:List Nat):Prop:=∃(dx:Addr) (fs:List (Str×V)) (kvs:List (Key×V)),S a.x=some (.ins (cFi mg) dx fs)/\FldsOk fs a m/\TupH S a.t (T.map V.int)/\YoungAt S a.y T/\WaysAt S a.d 13 m c (λp=>p<T.length)/\S a.o=some (.dK kvs)/\kvs.length<=cntK kvs T.length/\OutsAt S kvs T m c r
noncomputable def FillR (mg:Str->Option Value) (H:Hp) (a:Fa) (T:List Int) (m:Nat) (c:Nat->Nat->Nat) (r:List Nat):Prop:=FillS mg (strip a.rl H) a T m c r/\H a.rl=some (.lst (rowV r))
theorem strip_sub {p:Addr}{H:Hp}:Zf (strip p H) H:=λb o z=>by
 by_cases e:b=p
 ·subst e;rw[ZcO]at z;cases z
 ·rw[Zao e]at z;exact z
theorem strip_mono {p:Addr}{H H':Hp} (s:Zf H H'):Zf (strip p H) (strip p H'):=λb o z=>by
 by_cases e:b=p
 ·subst e;rw[ZcO]at z;cases z
 ·rw[Zao e]at z⊢;exact s _ _ z
theorem strip_upd {p b:Addr}{H:Hp}{o:HO} (h:b≠p):strip p (upd H b o)=upd (strip p H) b o:=by
 funext d
 by_cases e:d=p
 ·subst e;rw[ZcO,Zh (λz=>h z.symm),ZcO]
 ·rw[Zao e]
  by_cases y:d=b
  ·subst y;rw[Zb,Zb]
  ·rw[Zh y,Zh y,Zao e]
theorem strip_own {p:Addr}{H:Hp}{o:HO}:strip p (upd H p o)=strip p H:=by
 funext d
 by_cases e:d=p
 ·subst e;rw[ZcO,ZcO]
 ·rw[Zao e,Zao e,Zh e]
theorem fillS_same {mg:Str->Option Value}{S S':Hp}{a:Fa}{T:List Int}{m:Nat}{c:Nat->Nat->Nat}{r:List Nat} (h:FillS mg S a T m c r) (s:Zf S S'):FillS mg S' a T m c r:=by
 obtain⟨dx,fs,kvs,h1,h2,h3,h4,h5,h6,h7,h8⟩:=h
 exact⟨dx,fs,kvs,s _ _ h1,h2,tupH_same h3 s,youngAt_same h4 s,h5.same s,s _ _ h6,h7,λp hp v e=>let ⟨a,l,b,z⟩:=h8 p hp v e;⟨a,l,b,s _ _ z⟩⟩
theorem fillR_same {mg:Str->Option Value}{H H':Hp}{a:Fa}{T:List Int}{m:Nat}{c:Nat->Nat->Nat}{r:List Nat} (h:FillR mg H a T m c r) (s:Zf H H'):FillR mg H' a T m c r:=⟨fillS_same h.1 (strip_mono s),s _ _ h.2⟩
theorem fillS_put {mg:Str->Option Value}{S:Hp}{a:Fa}{T:List Int}{m:Nat}{c:Nat->Nat->Nat}{r:List Nat}{kvs:List (Key×V)}{p:Nat}{l:Addr} (h:FillS mg S a T m c r) (hk:S a.o=some (.dK kvs)) (hp:p<T.length) (hU:UpTo T p r.length) (hl:S l=some (.lst (outL m (oW T c (fnR r) p)))):FillS mg (upd S a.o (.dK (putK kvs (.inl (p:Int)) (.ref l)))) a T m c r:=by
 obtain⟨dx,fs,kvs',h1,h2,h3,h4,h5,h6,h7,h8⟩:=h
 rw[hk]at h6;cases h6
 have nl:∀{b:Addr}{xs:List V},S b=some (.lst xs)->b≠a.o:=λ{b xs} e z=>by rw[z,hk]at e;cases e
 refine⟨dx,fs,_,by rw[Zh (λz=>by rw[z,hk]at h1;cases h1)];exact h1,h2,?_,?_,?_,Zb,cnt_put h7 hp,λq hq v e=>?_⟩
 ·rcases h3 with h3|⟨ob,o1,o2⟩
  ·exact .inl (by rw[Zh (λz=>by rw[z,hk]at h3;cases h3)];exact h3)
  ·exact .inr ⟨ob,o1,by rw[Zh (λz=>by rw[z,hk]at o2;cases o2)];exact o2⟩
 ·obtain⟨as,y1,y2,y3⟩:=h4
  exact⟨as,by rw[Zh (nl y1)];exact y1,y2,λv b e=>let ⟨ah,bh,p1,p2,p3⟩:=y3 v b e;⟨ah,bh,p1,p2,by rw[Zh (nl p3)];exact p3⟩⟩
 ·obtain⟨ks,w1,w0,⟨l0,w2,w3⟩,w4⟩:=h5
  exact⟨ks,by rw[Zh (λz=>by rw[z,hk]at w1;cases w1)];exact w1,w0,⟨l0,w2,by rw[Zh (nl w3)];exact w3⟩,λp hp=>let ⟨l,x,e⟩:=w4 p hp;⟨l,x,by rw[Zh (nl e)];exact e⟩⟩
 ·rw[ZbR]at e
  by_cases z:q=p
  ·subst z
   rw[Yc rfl]at e;cases e
   exact⟨hU,l,rfl,by rw[Zh (nl hl)];exact hl⟩
  ·rw[Yb (λy=>z (by have:=Sum.inl.inj y;omega))]at e
   obtain⟨a1,l1,a2,a3⟩:=h8 q hq v e
   exact⟨a1,l1,a2,by rw[Zh (nl a3)];exact a3⟩
theorem fillS_grow {ns:List Int}{mg:Str->Option Value}{S:Hp}{a:Fa}{T:List Int}{m:Nat}{c:Nat->Nat->Nat}{r:List Nat} (hT:Zi ns T) (h:FillS mg S a T m c r) (x:Nat):FillS mg S a T m c (r++[x]):=by
 obtain⟨dx,fs,kvs,h1,h2,h3,h4,h5,h6,h7,h8⟩:=h
 refine⟨dx,fs,kvs,h1,h2,h3,h4,h5,h6,h7,λp hp v e=>?_⟩
 obtain⟨a1,l,a2,a3⟩:=h8 p hp v e
 refine⟨a1.mono (by rw[YD];omega),l,a2,?_⟩
 rw[a3,oW_congr hT (f:=fnR r) (g:=fnR (r++[x])) (k:=r.length) (λi hi=>by unfold fnR;simp[Yg,YS hi]) _ p hp (Yd _) a1]
noncomputable def GoodF (T:List Int) (m:Nat) (c:Nat->Nat->Nat) (r:List Nat):Prop:=Zbb T/\T.length<=12/\0<m/\m<=12/\WaysIs T m c/\(∀i∈r,i<m)/\r.length<=T.length
noncomputable def sp_Filling_outside_ways_R (n:Nat):SpT:=λK mg vs H Q E=>match n with
 |0=>False
 |n+1=>∃(a:Fa) (T:List Int) (m:Nat) (c:Nat->Nat->Nat) (r:List Nat) (p:Nat),vs=[.ref a.x,.int p]/\FillR mg H a T m c r/\GoodF T m c r/\p<T.length/\UpTo T p r.length/\3*(way T p).length+1<=n/\∀(l:Addr) H',Exc a.o H H'->FillR mg H' a T m c r->strip a.rl H' l=some (.lst (outL m (oW T c (fnR r) p)))->Q (.ref l) H'
noncomputable def sp_Filling_outside_by_elder_R (n:Nat):SpT:=λK mg vs H Q E=>match n with
 |0=>False
 |n+1=>∃(a:Fa) (T:List Int) (m:Nat) (c:Nat->Nat->Nat) (r:List Nat) (p:Nat),vs=[.ref a.x,.int p,.int (nth T p)]/\FillR mg H a T m c r/\GoodF T m c r/\p<T.length/\UpTo T p r.length/\3*(way T p).length<=n/\∀(l:Addr) H',Exc a.o H H'->FillR mg H' a T m c r->strip a.rl H' l=some (.lst (outL m (oW T c (fnR r) p)))->Q (.ref l) H'
noncomputable def sp_Filling_onward_ways_R (n:Nat):SpT:=λK mg vs H Q E=>match n with
 |0=>False
 |n+1=>∃(a:Fa) (T:List Int) (m:Nat) (c:Nat->Nat->Nat) (r:List Nat) (p:Nat),vs=[.ref a.x,.int p]/\FillR mg H a T m c r/\GoodF T m c r/\p<T.length/\UpTo T p r.length/\3*(way T p).length+2<=n/\∀(l:Addr) H',Exc a.o H H'->FillR mg H' a T m c r->strip a.rl H' l=some (.lst (outL m (nW T c (fnR r) p)))->Q (.ref l) H'
noncomputable def sp_Filling_onward_ways:SpT:=sp_Filling_onward_ways_R 40
noncomputable def sp_Filling_next_ways:SpT:=λK mg vs H Q E=>∃(a:Fa) (T:List Int) (m:Nat) (c:Nat->Nat->Nat) (r:List Nat),vs=[.ref a.x]/\FillR mg H a T m c r/\GoodF T m c r/\r.length<T.length/\∀(l:Addr) H',Exc a.o H H'->FillR mg H' a T m c r->strip a.rl H' l=some (.lst (outL (abV T m (fnR r) r.length) (nW T c (fnR r) r.length)))->Q (.ref l) H'
theorem outInts (m:Nat) (g:Nat->Nat):outL m g=((List.range m).map λj=>((g j:Nat):Int)).map V.int:=by simp[outL,YU,Function.comp_def]
theorem sums_rng (g:Nat->Nat):∀k,Zv 0 ((List.range k).map λj=>((g j:Nat):Int))=(List.range k).map (λi=>((sumTo g (i+1):Nat):Int))/\((List.range k).map λj=>((g j:Nat):Int)).sum=((sumTo g k:Nat):Int)
 |0=>by simp[Zv,sumTo]
 |k+1=>by
  obtain⟨h1,h2⟩:=sums_rng g k
  rw[YJ,YM,Zan,h1,h2,List.sum_append,h2,YM]
  constructor
  ·simp[Zv,sumTo]
  ·simp[sumTo]
theorem up_tree {T us:List Int} (hG:Zbb T) (hl:us.length=T.length) (h:∀p q:Nat,p<T.length->nth T p=q->nth us q-nth (Zap T) q<=nth us p-nth (Zap T) p):Zi us T:=by
 obtain⟨_,nsT,hT⟩:=hG
 have eT:=hT.1
 have hup:∀o p,o<nsT.length->p<nsT.length->Over (nth nsT) o p->nth us o-nth (Zap T) o<=nth us p-nth (Zap T) p:=λo p ho hp hO =>
  Zkv hT (R:=λo p=>nth us o-nth (Zap T) o<=nth us p-nth (Zap T) p) (λp q hp hq e _=>h p q (by omega) e) (λo q p _ _ r1 r2=>by omega) _ p o hp ho rfl hO
 refine⟨hl.symm,λp hp=>?_⟩
 rw[show us.length=nsT.length by omega]at hp⊢
 refine Zor hT (λq p hq hp hO=>?_) p hp
 have h1:=hup q p hq hp hO
 have h2:=Zm5 hT hp hq hO
 rw[ZbM (by omega),ZbM (by omega)]at h1
 exact⟨λ_=>by omega,λz=>by have:=h2.2 z;omega⟩
theorem cOf_cc {T:List Int}{m:Nat}{c d:Nat->Nat->Nat} (h:∀p j,p<T.length->j<=m->c p j=d p j) (p:Nat) {j:Nat} (hj:j<=m):cOf c (kidB T p) j=cOf d (kidB T p) j:=by
 cases e:kidB T p with
 |none=>rfl
 |some q=>exact h q j (kidB_some e).2.1 hj
theorem oW_cc {ns T:List Int} (hT:Zi ns T) {c d:Nat->Nat->Nat}{f:Nat->Nat}{m:Nat} (h:∀p j,p<T.length->j<=m->c p j=d p j) (hf:∀e,f e<=m):∀k p x,p<T.length->(way T p).length<=k->x<=m->oW T c f p x=oW T d f p x:=by
 intro k
 induction k with
 |zero =>
  intro p x hp hd _
  rcases way_step hT hp with⟨z,_⟩|⟨q,z,hq,zw⟩
  ·rw[oW_top hT hp z,oW_top hT hp z]
  ·rw[zw]at hd;simp at hd
 |succ k ih =>
  intro p x hp hd hx
  rcases way_step hT hp with⟨z,_⟩|⟨q,z,hq,zw⟩
  ·rw[oW_top hT hp z,oW_top hT hp z]
  ·have hd2:(way T q).length<=k:=by rw[zw,Yn]at hd;omega
   by_cases hl:p<q
   ·rw[oW_left hT hp z hl,oW_left hT hp z hl]
    exact sumTo_ext x λy hy=>by unfold nW;rw[ih q y hq hd2 (by omega),cOf_cc h q (by omega)]
   ·rw[oW_right hT hp z (by omega),oW_right hT hp z (by omega),ih q _ hq hd2 (hf q)]
theorem rkF_cc {ns T:List Int} (hT:Zi ns T) {c d:Nat->Nat->Nat}{f:Nat->Nat}{m:Nat} (h:∀p j,p<T.length->j<=m->c p j=d p j) (hf:∀e,f e<=m):∀k,k<=T.length->rkF T c f k=rkF T d f k
 |0,_=>rfl
 |k+1,hk=>by
  show rkF T c f k+sumTo (nW T c f k) (f k)=rkF T d f k+sumTo (nW T d f k) (f k)
  rw[rkF_cc hT h hf k (by omega)]
  congr 1
  have:=hf k
  exact sumTo_ext _ λy hy=>by unfold nW;rw[oW_cc hT h hf _ k y (by omega) (Yd _) (by omega),cOf_cc h k (by omega)]
noncomputable def cT (T:List Int) (m:Nat):Nat->Nat->Nat:=cF T m T.length
noncomputable def manyC (T:List Int) (m:Nat):Nat:=topC T (cT T m)
noncomputable def rk (T:List Int) (m:Nat) (r:List Nat):Nat:=rkF T (cT T m) (fnR r) T.length
noncomputable def RowIs (T:List Int) (m:Nat) (r:List Nat):Prop:=r.length=T.length/\PreOk T m (fnR r) T.length
theorem RowIs.all {T:List Int}{m:Nat}{r:List Nat} (h:RowIs T m r):∀i∈r,i<m:=λi hi=>by
 obtain⟨j,hj,e⟩:=Y1 hi
 have:=(h.2 j (by rw[<-h.1];exact hj)).1
 have e2:fnR r j=r[j]:=by simp[fnR,Yg,hj]
 omega
theorem fnR_all {r:List Nat}{m:Nat} (hr:∀i∈r,i<m) (j:Nat):fnR r j<=m:=by
 by_cases h:j<r.length
 ·have e:fnR r j=r[j]:=by simp[fnR,Yg,h]
  rw[e];exact YH (hr _ (YF h))
 ·simp[fnR,Yg,List.getElem?_eq_none (Nat.le_of_not_lt h)]
theorem rk_of {ns T:List Int} (hT:Zi ns T) {m:Nat}{c:Nat->Nat->Nat} (hW:WaysIs T m c) {r:List Nat} (h:∀i∈r,i<m):rkF T c (fnR r) T.length=rk T m r :=
 rkF_cc hT (λp j hp hj=>ways_one hT hW (cF_ways hT m) _ p hp (Yd _) j hj) (fnR_all h) _ (Yd _)
theorem many_of {ns T:List Int} (hT:Zi ns T) {m:Nat}{c:Nat->Nat->Nat} (hW:WaysIs T m c):topC T c=manyC T m:=top_one hT hW (cF_ways hT m)
theorem rk_less {ns T:List Int} (hT:Zi ns T) {m:Nat}{r:List Nat} (h:RowIs T m r):rk T m r<manyC T m:=rk_lt hT (cF_ways hT m) h.2
theorem fnR_ext {r s:List Nat} (hl:r.length=s.length) (h:∀i,i<r.length->fnR r i=fnR s i):r=s:=by
 refine List.ext_getElem hl λi h1 h2=>?_
 have:=h i h1
 simpa[fnR,Yg,h1,h2]using this
theorem rk_eq {ns T:List Int} (hT:Zi ns T) {m:Nat}{r s:List Nat} (h:RowIs T m r) (k:RowIs T m s) (e:rk T m r=rk T m s):r=s:=by
 refine fnR_ext (by rw[h.1,k.1]) λi hi=>?_
 exact rk_inj hT (cF_ways hT m) h.2 k.2 e _ (Yd _) i (by rw[<-h.1];exact hi)
noncomputable def intR (r:List Nat):List Int:=r.map λi=>((i:Nat):Int)
theorem intR_nth {r:List Nat}{i:Nat} (h:i<r.length):nth (intR r) i=((fnR r i:Nat):Int):=by
 simp[nth,intR,fnR,Yg,h]
theorem rowV_int (r:List Nat):rowV r=(intR r).map V.int:=by simp[rowV,intR,YU,Function.comp_def]
theorem row_tree {ns T:List Int} (hT:Zi ns T) (h40:T.length<=40) {m:Nat}{r:List Nat} (h:RowIs T m r):Zi (intR r) T:=by
 have eN:=hT.1
 refine up_tree ⟨h40,ns,hT⟩ (by simp[intR,h.1]) λp q hp e=>?_
 have hq:q<T.length:=by
  rcases way_step hT hp with⟨z,_⟩|⟨q',z,hq',_⟩
  ·omega
  ·have:q=q':=by omega
   omega
 have hO:Over (nth ns) q p:=((Zaq hT (by omega)).mp (by rw[ZaS hT (by omega) e];simp)).2
 have h1:=ZcC hT (by omega) (by omega) e hO
 have hn:=hO.ne
 rw[ZbM (by omega),ZbM (by omega),intR_nth (by rw[h.1];exact hq),intR_nth (by rw[h.1];exact hp)]
 obtain⟨k1,k2⟩:=(h.2 p hp).2 q e
 by_cases z:p<q
 ·have:=k2 z hq
  rw[Yc z]at h1
  omega
 ·have:=k1 (by omega)
  rw[Yb z]at h1
  omega
theorem tree_is_row {T:List Int}{m:Nat}{r:List Nat} (h:Zi (intR r) T) (hm:∀i∈r,i<m):RowIs T m r:=by
 have hl:(intR r).length=r.length:=by simp[intR]
 have eN:=h.1
 refine⟨by omega,λq hq=>⟨?_,λe he=>?_⟩⟩
 ·have e2:fnR r q=r[q]'(by omega):=by simp[fnR,Yg,show q<r.length by omega]
  rw[e2];exact hm _ (YF _)
 ·have hO:=(Zaq h (by omega)).mp (show e∈way T q by rw[ZaS h (by omega) he];simp)
  obtain⟨h1,h2⟩:=hO
  refine⟨λz=>?_,λz z2=>?_⟩
  ·rcases h2 with⟨y1,y2⟩|⟨y1,y2⟩
   ·have:=y2 q z (Yd _)
    rw[intR_nth (by omega),intR_nth (by omega)]at this;omega
   ·omega
  ·rcases h2 with⟨y1,y2⟩|⟨y1,y2⟩
   ·omega
   ·have:=y2 q (Yd _) z
    rw[intR_nth (by omega),intR_nth (by omega)]at this;omega
theorem fnR_push {r:List Nat}{x i:Nat} (h:i<r.length):fnR (r++[x]) i=fnR r i:=by simp[fnR,Yg,YS h]
theorem fnR_last {r:List Nat}{x:Nat}:fnR (r++[x]) r.length=x:=by simp[fnR,Yg]
theorem PreOk.ext {T:List Int}{m k:Nat}{f g:Nat->Nat} (h:PreOk T m f k) (e:∀i,i<k->f i=g i):PreOk T m g k:=λq hq=>⟨by rw[<-e q hq];exact(h q hq).1,λd hd=>⟨λz=>by rw[<-e q hq,<-e d (by omega)];exact((h q hq).2 d hd).1 z,λz z2=>by rw[<-e q hq,<-e d z2];exact((h q hq).2 d hd).2 z z2⟩⟩
theorem abV_ext {T:List Int}{m k:Nat}{f g:Nat->Nat} (e:∀i,i<k->f i=g i):abV T m f k=abV T m g k:=by
 unfold abV
 cases h:kidA T k with
 |none=>rfl
 |some a=>exact e a (kidA_some h).1
theorem step_row {ns T:List Int}{m:Nat}{c:Nat->Nat->Nat} (hT:Zi ns T) (hW:WaysIs T m c) {r:List Nat}{x rest:Nat} (hk:r.length<T.length) (h:PreOk T m (fnR r) r.length) (hx:x<abV T m (fnR r) r.length) (hr:rest<nW T c (fnR r) r.length x):PreOk T m (fnR (r++[x])) (r.length+1)/\rest<vW T m c (fnR (r++[x])) (r.length+1)/\rkF T c (fnR (r++[x])) (r.length+1)=rkF T c (fnR r) r.length+sumTo (nW T c (fnR r) r.length) x/\x<m:=by
 have e:∀i,i<r.length->fnR r i=fnR (r++[x]) i:=λi hi=>(fnR_push hi).symm
 have e1:=nW_congr hT (c:=c) e hk (up_next hT hk)
 have hP:PreOk T m (fnR (r++[x])) (r.length+1):=by
  refine PreOk.more hT (c:=c) hk (h.ext e) ?_ ?_
  ·rw[fnR_last,<-abV_ext e];exact hx
  ·rw[fnR_last,<-e1];omega
 have hm:=(hP r.length (by omega)).1
 rw[fnR_last]at hm
 refine⟨hP,?_,?_,hm⟩
 ·rw[vW_next hT hW hk hP,fnR_last,<-e1];exact hr
 ·show rkF T c (fnR (r++[x])) r.length+sumTo (nW T c (fnR (r++[x])) r.length) (fnR (r++[x]) r.length)=_
  rw[fnR_last,<-e1,rkF_congr hT r.length (by omega) e]
theorem pickN_sum:∀(ws:List Int) (x:Int),0<=x->x<ws.sum->x=(ws.take (Z1 ws x).1).sum+(Z1 ws x).2
 |[],x,h0,h1=>by simp at h1;omega
 |a::ws,x,h0,h1=>by
  rw[List.sum_cons]at h1
  unfold Z1
  by_cases z:a<=x
  ·rw[Yc z]
   have ih:=pickN_sum ws (x-a) (by omega) (by omega)
   simp only[List.take_succ_cons,List.sum_cons]
   omega
  ·rw[Yb z];simp
theorem pick_rng {g:Nat->Nat}{k:Nat}{x:Int} (h0:0<=x) (h1:x<(sumTo g k:Nat)):∃i rest:Nat,Z1 ((List.range k).map λj=>((g j:Nat):Int)) x=(i,(rest:Int))/\i<k/\rest<g i/\x=((sumTo g i+rest:Nat):Int):=by
 have hs:x<((List.range k).map λj=>((g j:Nat):Int)).sum:=by rw[(sums_rng g k).2];exact h1
 obtain⟨p1,p2,p3⟩:=ZfE _ x h0 hs
 have p4:=pickN_sum _ x h0 hs
 generalize Z1 ((List.range k).map λj=>((g j:Nat):Int)) x=p at *
 obtain⟨i,y⟩:=p
 simp only[Yi,Y4]at p1
 refine⟨i,y.toNat,by simp only[Prod.mk.injEq,true_and];omega,p1,?_,?_⟩
 ·simp[Yg,p1]at p3
  simp only at p2
  omega
 ·simp only at p4 p2
  rw[<-List.map_take,List.take_range,show min i k=i by omega,(sums_rng g i).2]at p4
  omega
noncomputable def sp_Filling___init__:SpT:=λK mg vs H Q E=>∃(x dx t:Addr) (T:List Int) (m:Nat),vs=[.ref x,.ref t,.int m]/\H x=some (.ins (cFi mg) dx [])/\TupH H t (T.map V.int)/\Zbb T/\T.length<=12/\m<=12/\ZbA K mg "from_below" H/\∀(a:Fa) (c:Nat->Nat->Nat) H',a.x=x->a.t=t->H a.rl=none->H a.o=none->Exc x H H'->WaysIs T m c->FillR mg H' a T m c []->Q .non H'
noncomputable def sp_pick:SpT:=λK mg vs H Q E=>∃(a:Addr) (ws:List Int) (x:Int),vs=[.ref a,.int x]/\H a=some (.lst (ws.map V.int))/\0<=x/\x<ws.sum/\∀(u:Addr) H',Zf H H'->H' u=some (.tup [.int ((Z1 ws x).1:Nat),.int (Z1 ws x).2])->Q (.ref u) H'
noncomputable def sp_row_at:SpT:=λK mg vs H Q E=>∃(t:Addr) (T:List Int) (m:Nat) (x:Int),vs=[.ref t,.int m,.int x]/\TupQ H t T/\Zbb T/\T.length<=12/\m<=12/\ZbA K mg "from_below" H/\((0<=x/\x<(manyC T m:Nat))->∀(u:Addr) (r:List Nat) H',H u=none->Zf H H'->RowIs T m r->(rk T m r:Int)=x->H' u=some (.tup (rowV r))->Q (.ref u) H')/\(¬ (0<=x/\x<(manyC T m:Nat))->∀H',Zf H H'->E (.ref (clsAt mg "NoNumber")) none H')
noncomputable def sp_number_of_row:SpT:=λK mg vs H Q E=>∃(t:Addr) (r:List Nat) (m:Nat),vs=[.ref t,.int m]/\(SqL K H t (rowV r)\/SqT K H t (rowV r))/\r.length<=12/\m<=12/\(∀i∈r,i<m)/\ZbA K mg "from_below" H/\∀(T:List Int) H',Zi (intR r) T->Zf H H'->Q (.int ((rk T m r:Nat):Int)) H'
noncomputable def allN (m:Nat):Nat->List (List Nat)
 |0=>[[]]
 |k+1=>(allN m k).flatMap λr=>(List.range m).map λx=>r++[x]
theorem allN_mem (m:Nat):∀k s,s∈allN m k↔s.length=k/\∀i∈s,i<m
 |0,s=>by
  simp only[allN,Y3]
  constructor
  ·rintro rfl;simp
  ·rintro⟨h,_⟩;exact List.length_eq_zero_iff.mp h
 |k+1,s=>by
  simp only[allN,List.mem_flatMap,YG,YC]
  constructor
  ·rintro⟨r,hr,x,hx,rfl⟩
   obtain⟨h1,h2⟩:=(allN_mem m k r).mp hr
   refine⟨by simp[h1],λi hi=>?_⟩
   rcases Yz.mp hi with z|z
   ·exact h2 i z
   ·simp at z;omega
  ·rintro⟨h1,h2⟩
   have hne:s≠[]:=λz=>by rw[z]at h1;simp at h1
   refine⟨s.dropLast,(allN_mem m k _).mpr ⟨by simp[h1],λi hi=>h2 i ((List.dropLast_subset s hi))⟩,s.getLast hne,h2 _ (List.getLast_mem hne),List.dropLast_concat_getLast hne⟩
noncomputable def LexN (r s:List Nat):Prop:=r.length=s.length/\∃d,d<r.length/\(∀i,i<d->fnR r i=fnR s i)/\fnR r d<fnR s d
theorem allN_sorted (m:Nat):∀k,(allN m k).Pairwise LexN
 |0=>by simp[allN]
 |k+1=>by
  simp only[allN]
  rw[List.pairwise_flatMap]
  refine⟨λr _=>?_,(allN_sorted m k).imp λ{r s} h x hx y hy=>?_⟩
  ·rw[List.pairwise_map]
   refine List.pairwise_lt_range.imp λ{a b} h=>⟨by simp,r.length,by simp,λi hi=>by rw[fnR_push hi,fnR_push hi],by rw[fnR_last,fnR_last];exact h⟩
  ·obtain⟨a,_,rfl⟩:=YG.mp hx
   obtain⟨b,_,rfl⟩:=YG.mp hy
   obtain⟨h1,d,h2,h3,h4⟩:=h
   refine⟨by simp[h1],d,by simp;omega,λi hi=>?_,?_⟩
   ·rw[fnR_push (by omega),fnR_push (by omega)];exact h3 i hi
   ·rw[fnR_push h2,fnR_push (by omega)];exact h4
theorem unrank_ex {ns T:List Int} (hT:Zi ns T) {m x:Nat} (hx:x<manyC T m):∃r,RowIs T m r/\rk T m r=x:=by
 have hW:WaysIs T m (cT T m):=cF_ways hT m
 have key:∀k,k<=T.length->∃(r:List Nat) (rest:Nat),r.length=k/\PreOk T m (fnR r) k/\rest<vW T m (cT T m) (fnR r) k/\x=rkF T (cT T m) (fnR r) k+rest:=by
  intro k
  induction k with
  |zero =>
   intro _
   refine⟨[],x,rfl,(λq hq=>absurd hq (by omega)),?_,?_⟩
   ·rw[vW_zero hT hW];exact hx
   ·show x=0+x
    omega
  |succ k ih =>
   intro hk
   obtain⟨r,rest,rfl,hP,hrest,hx⟩:=ih (by omega)
   rw[show vW T m (cT T m) (fnR r) r.length=sumTo (nW T (cT T m) (fnR r) r.length) (abV T m (fnR r) r.length) by unfold vW;rw[Yb (by omega)]]at hrest
   obtain⟨i,rest2,pk,p1,p2,p3⟩:=pick_rng (g:=nW T (cT T m) (fnR r) r.length) (k:=abV T m (fnR r) r.length) (x:=(rest:Int)) (by omega) (by omega)
   obtain⟨q1,q2,q3,q4⟩:=step_row hT hW (by omega) hP p1 p2
   refine⟨r++[i],rest2,by simp,q1,q2,?_⟩
   rw[hx,q3]
   omega
 obtain⟨r,rest,h1,h2,h3,h4⟩:=key T.length (Yd _)
 have:rest=0:=by
  unfold vW at h3
  rw[Yc rfl]at h3;omega
 exact⟨r,⟨h1,h2⟩,by rw[h4,this];rfl⟩
noncomputable def rowsN (T:List Int) (m:Nat):List (List Nat):=(allN m T.length).filter λs=>decide (Zaz (intR s)=T)
theorem rowsN_mem {ns T:List Int} (hT:Zi ns T) (h40:T.length<=40) {m:Nat}{s:List Nat}:s∈rowsN T m↔RowIs T m s:=by
 unfold rowsN
 rw[YV,allN_mem,decide_eq_true_eq]
 constructor
 ·rintro⟨⟨h1,h2⟩,h3⟩
  exact tree_is_row (by rw[<-h3];exact ZbS _) h2
 ·intro h
  exact⟨⟨h.1,h.all⟩,Zi.unique (ZbS _) (row_tree hT h40 h)⟩
theorem rows_rk {ns T:List Int} (hT:Zi ns T) (h40:T.length<=40) {m:Nat}:∀j (h:j<(rowsN T m).length),rk T m (rowsN T m)[j]=j:=by
 have hs:(rowsN T m).Pairwise LexN:=(allN_sorted m T.length).filter _
 have mono:∀i j (hi:i<(rowsN T m).length) (hj:j<(rowsN T m).length),i<j->rk T m (rowsN T m)[i]<rk T m (rowsN T m)[j]:=λi j hi hj h=>by
  obtain⟨_,d,d1,d2,d3⟩:=List.pairwise_iff_getElem.mp hs i j hi hj h
  have r1:=(rowsN_mem hT h40).mp (YF hi)
  exact rk_mono hT (cF_ways hT m) r1.2 d (by rw[<-r1.1];exact d1) d2 d3
 intro j
 induction j using Nat.strongRecOn with
 |_ j ih =>
  intro hj
  rcases Nat.lt_trichotomy (rk T m (rowsN T m)[j]) j with z|z|z
  ·have h1:=ih _ z (by omega)
   have h2:=mono _ j (by omega) hj z
   omega
  ·exact z
  ·exfalso
   have hlt:=rk_less hT ((rowsN_mem hT h40).mp (YF hj))
   obtain⟨r,hr,e⟩:=unrank_ex hT (m:=m) (x:=j) (by omega)
   obtain⟨i,hi,ei⟩:=Y1 ((rowsN_mem hT h40).mpr hr)
   rw[<-ei]at e
   rcases Nat.lt_trichotomy i j with y|y|y
   ·have:=ih i y hi;omega
   ·subst y;omega
   ·have:=mono j i hj hi y;omega
theorem rows_len {ns T:List Int} (hT:Zi ns T) (h40:T.length<=40) (m:Nat):(rowsN T m).length=manyC T m:=by
 rcases Nat.lt_trichotomy (rowsN T m).length (manyC T m)with z|z|z
 ·exfalso
  obtain⟨r,hr,e⟩:=unrank_ex hT z
  obtain⟨i,hi,ei⟩:=Y1 ((rowsN_mem hT h40).mpr hr)
  have:=rows_rk hT h40 i hi
  rw[ei]at this
  omega
 ·exact z
 ·exfalso
  have h1:=rows_rk (m:=m) hT h40 (manyC T m) z
  have h2:=rk_less hT ((rowsN_mem hT h40).mp (YF z))
  omega
theorem flat_low {ns T:List Int} (hT:Zi ns T) {m:Nat}{f:Nat->Nat} (hf:PreOk T m f T.length):∀d p,p<T.length->(way T p).length<=d->Zaa T p<=f p:=by
 have eN:=hT.1
 intro d
 induction d with
 |zero =>
  intro p hp hd
  have:way T p=[]:=List.length_eq_zero_iff.mp (by omega)
  unfold Zaa;rw[this];exact Ym _
 |succ d ih =>
  intro p hp hd
  rcases way_step hT hp with⟨z,zw⟩|⟨q,z,hq,zw⟩
  ·unfold Zaa;rw[zw];exact Ym _
  ·have hO:Over (nth ns) q p:=((Zaq hT (by omega)).mp (by rw[zw];simp)).2
   have h1:=ZcC hT (by omega) (by omega) z hO
   have h2:=ih q hq (by rw[zw,Yn]at hd;omega)
   have hn:=hO.ne
   obtain⟨k1,k2⟩:=(hf p hp).2 q z
   by_cases y:p<q
   ·have:=k2 y hq
    rw[Yc y]at h1;omega
   ·have:=k1 (by omega)
    rw[Yb y]at h1;omega
theorem flat_first {ns T:List Int} (hT:Zi ns T) (h40:T.length<=40) {m:Nat} (h:0<(rowsN T m).length):intR (rowsN T m)[0]=Zap T:=by
 have eN:=hT.1
 have h0:=(rowsN_mem hT h40).mp (YF h)
 have hlow:=λp hp=>flat_low hT h0.2 _ p hp (Yd _)
 have hfl:∀p,p<T.length->fnR ((List.range T.length).map (Zaa T)) p=Zaa T p:=λp hp=>by simp[fnR,Yg,hp]
 have hRow:RowIs T m ((List.range T.length).map (Zaa T)):=by
  refine⟨by simp,λq hq=>⟨?_,λe he=>?_⟩⟩
  ·rw[hfl q hq];exact Ys (hlow q hq) (h0.2 q hq).1
  ·rcases way_step hT hq with⟨z,_⟩|⟨e',z,he',zw⟩
   ·omega
   ·have:e'=e:=by omega
    subst this
    have hO:Over (nth ns) e' q:=((Zaq hT (by omega)).mp (by rw[zw];simp)).2
    have h1:=ZcC hT (by omega) (by omega) z hO
    rw[hfl q hq,hfl e' he']
    exact⟨λy=>by rw[Yb (by omega)]at h1;omega,λy _=>by rw[Yc y]at h1;omega⟩
 obtain⟨i,hi,ei⟩:=Y1 ((rowsN_mem hT h40).mpr hRow)
 have hi0:i=0:=by
  rcases Nat.eq_zero_or_pos i with z|z
  ·exact z
  ·exfalso
   have hs:LexN (rowsN T m)[0] (rowsN T m)[i]:=List.pairwise_iff_getElem.mp ((allN_sorted m T.length).filter λs=>decide (Zaz (intR s)=T)) 0 i h hi z
   obtain⟨_,d,d1,_,d3⟩:=hs
   rw[ei]at d3
   have hd:d<T.length:=by rw[<-h0.1];exact d1
   rw[hfl d hd]at d3
   have:=hlow d hd
   exact absurd d3 (Nat.not_lt.mpr this)
 subst hi0
 rw[ei]
 simp[intR,Zap,YU,Function.comp_def]
theorem span_div {ns T:List Int} (hT:Zi ns T):∀d p,p<ns.length->szN (nth ns) ns.length p<=d->prodF (szN (nth ns) ns.length) (p-ZI (nth ns) p) (ZI (nth ns) p+1+ZY (nth ns) ns.length p) ∣ ZL (szN (nth ns) ns.length p):=by
 intro d
 induction d with
 |zero=>intro p hp hd;have:=ZmD (nth ns) ns.length p;omega
 |succ d ih =>
  intro p hp hd
  obtain⟨c1,c2,c3,c4⟩:=ZR hT hp
  have hs:szN (nth ns) ns.length p=ZI (nth ns) p+1+ZY (nth ns) ns.length p:=by unfold szN;omega
  have left:prodF (szN (nth ns) ns.length) (p-ZI (nth ns) p) (ZI (nth ns) p) ∣ ZL (ZI (nth ns) p):=by
   rcases Nat.eq_zero_or_pos (ZI (nth ns) p)with z|z
   ·rw[z];exact Nat.dvd_refl _
   ·obtain⟨q,q1,q2⟩:=ZkJ hT hp z
    obtain⟨_,b1,b2,_⟩:=ZdD hT (q:=q) (by omega) q2 q1
    obtain⟨e1,e2,e3,e4⟩:=ZR hT (p:=q) (by omega)
    have hq:szN (nth ns) ns.length q=ZI (nth ns) q+1+ZY (nth ns) ns.length q:=by unfold szN;omega
    have:=ih q (by omega) (by omega)
    rw[show q-ZI (nth ns) q=p-ZI (nth ns) p by omega,show ZI (nth ns) q+1+ZY (nth ns) ns.length q=ZI (nth ns) p by omega,show szN (nth ns) ns.length q=ZI (nth ns) p by omega]at this
    exact this
  have right:prodF (szN (nth ns) ns.length) (p+1) (ZY (nth ns) ns.length p) ∣ ZL (ZY (nth ns) ns.length p):=by
   rcases Nat.eq_zero_or_pos (ZY (nth ns) ns.length p)with z|z
   ·rw[z];exact Nat.dvd_refl _
   ·obtain⟨q,q1,q3,q2⟩:=Zi4 hT hp z
    obtain⟨b1,b2,_⟩:=ZbO hT (q:=q) (by omega) q2 q1
    obtain⟨e1,e2,e3,e4⟩:=ZR hT (p:=q) (by omega)
    have hq:szN (nth ns) ns.length q=ZI (nth ns) q+1+ZY (nth ns) ns.length q:=by unfold szN;omega
    have:=ih q (by omega) (by omega)
    rw[show q-ZI (nth ns) q=p+1 by omega,show ZI (nth ns) q+1+ZY (nth ns) ns.length q=ZY (nth ns) ns.length p by omega,show szN (nth ns) ns.length q=ZY (nth ns) ns.length p by omega]at this
    exact this
  rw[show ZI (nth ns) p+1+ZY (nth ns) ns.length p=ZI (nth ns) p+(1+ZY (nth ns) ns.length p) by omega,ZdC,ZdC,show p-ZI (nth ns) p+ZI (nth ns) p=p by omega]
  have e1:prodF (szN (nth ns) ns.length) p 1=szN (nth ns) ns.length p:=by simp[prodF]
  rw[e1,hs]
  have hc:=ZqH (ZI (nth ns) p+ZY (nth ns) ns.length p) (ZI (nth ns) p) (ZY (nth ns) ns.length p) rfl
  have hf:ZL (ZI (nth ns) p+1+ZY (nth ns) ns.length p)=(ZI (nth ns) p+ZY (nth ns) ns.length p+1)*ZL (ZI (nth ns) p+ZY (nth ns) ns.length p):=by
   rw[show ZI (nth ns) p+1+ZY (nth ns) ns.length p=ZI (nth ns) p+ZY (nth ns) ns.length p+1 by omega];rfl
  rw[hf,<-hc]
  have h1:=Nat.mul_dvd_mul left right
  have h2:=Nat.dvd_trans h1 (Nat.dvd_mul_left (ZL (ZI (nth ns) p)*ZL (ZY (nth ns) ns.length p)) (chN (ZI (nth ns) p) (ZY (nth ns) ns.length p)))
  have h3:=Nat.mul_dvd_mul (Nat.dvd_refl (ZI (nth ns) p+ZY (nth ns) ns.length p+1)) h2
  rw[show ZI (nth ns) p+1+ZY (nth ns) ns.length p=ZI (nth ns) p+ZY (nth ns) ns.length p+1 by omega]
  rw[Nat.mul_left_comm]
  exact h3
theorem orders_times {ns T:List Int} (hT:Zi ns T):ZL ns.length / prodF (szN (nth ns) ns.length) 0 ns.length*prodF (szN (nth ns) ns.length) 0 ns.length=ZL ns.length:=by
 refine Nat.div_mul_cancel ?_
 have eN:=hT.1
 rcases Nat.eq_zero_or_pos ns.length with z|z
 ·rw[z];exact Nat.dvd_refl _
 ·have hm1:=top_in hT _ 0 (by omega) (Yd _)
  have ht:=List.idxOf_lt_length_of_mem hm1
  have ht2:nth T (T.idxOf (-1))=-1:=by
   unfold nth
   rw[Yg,Yh ht]
   simp
  obtain⟨f1,f2⟩:=top_fen hT ht ht2
  obtain⟨c1,c2,c3,c4⟩:=ZR hT (p:=T.idxOf (-1)) (by omega)
  have:=span_div hT _ (T.idxOf (-1)) (by omega) (Yd _)
  have hs:szN (nth ns) ns.length (T.idxOf (-1))=ZI (nth ns) (T.idxOf (-1))+1+ZY (nth ns) ns.length (T.idxOf (-1)):=by unfold szN;omega
  rw[show T.idxOf (-1)-ZI (nth ns) (T.idxOf (-1))=0 by omega,show ZI (nth ns) (T.idxOf (-1))+1+ZY (nth ns) ns.length (T.idxOf (-1))=ns.length by omega,show szN (nth ns) ns.length (T.idxOf (-1))=ns.length by omega]at this
  exact this
noncomputable def treeL (n:Nat):List (List Int):=(List.range (goN n 0).toNat).map λx=>Zmu (ZoD n (x:Nat))
noncomputable def noDup:List (List Int)->Bool
 |[]=>true
 |x::xs=>!xs.contains x&&noDup xs
theorem noDup_nd:∀L:List (List Int),noDup L=true->L.Nodup
 |[],_=>List.nodup_nil
 |x::xs,h=>by
  simp only[noDup,Bool.and_eq_true,Bool.not_eq_true']at h
  refine List.nodup_cons.mpr ⟨λz=>?_,noDup_nd xs h.2⟩
  have:xs.contains x=true:=List.elem_eq_true_of_mem z
  rw[h.1]at this;cases this
theorem treeL_in:∀n,n<6->((ZbX n).all λr=>(treeL n).contains (Zaz r))=true:=by decide +kernel
theorem treeL_out:∀n,n<6->((treeL n).all λT=>((ZbX n).map Zaz).contains T)=true:=by decide +kernel
theorem treeL_nd:∀n,n<6->noDup (treeL n)=true:=by decide +kernel
theorem treeL_many:∀n:Nat,n<6->treesV (n:Int)=goN n 0/\goN n 0<=42/\0<=goN n 0:=by decide +kernel
theorem allO_fac:∀n,n<6->(ZbX n).length=ZL n:=by decide +kernel
theorem tree_in {ns T:List Int} (hT:Zi ns T) (h:ns.length<6):T∈treeL ns.length:=by
 obtain⟨r,hr,ho⟩:=ZhS ns.length (nth ns)
 have hl:=ZcE _ r hr
 have eT:Zaz r=T:=by
  refine Zi.unique (ZbS r) ⟨by rw[hT.1,hl],λp hp=>?_⟩
  rw[hl]at hp⊢
  exact ho.ZkM hp (hT.2 p hp)
 have:=List.all_eq_true.mp (treeL_in _ h) r hr
 rw[eT]at this
 exact List.mem_of_elem_eq_true this
theorem in_tree {n:Nat} (h:n<6) {T:List Int} (hT:T∈treeL n):∃r,r.length=n/\Zi r T:=by
 have:=List.mem_of_elem_eq_true (List.all_eq_true.mp (treeL_out n h) T hT)
 obtain⟨r,hr,rfl⟩:=YG.mp this
 exact⟨r,ZcE _ r hr,ZbS r⟩
theorem one_sum {β:Type} [DecidableEq β] (b:β):∀B:List β,B.Nodup->((B.map λx=>if b=x then 1 else 0).sum:Nat)=if b∈B then 1 else 0
 |[],_=>by simp
 |x::B,h=>by
  obtain⟨h1,h2⟩:=List.nodup_cons.mp h
  rw[YA,List.sum_cons,one_sum b B h2]
  by_cases e:b=x
  ·subst e;simp[h1]
  ·simp[e]
theorem part_sum {α β:Type} [DecidableEq β] (g:α->β) (B:List β) (nd:B.Nodup):∀L:List α,(∀a∈L,g a∈B)->(B.map λb=>(L.filter λa=>decide (g a=b)).length).sum=L.length
 |[],_=>by induction B with|nil=>rfl|cons x B ih=>simpa using ih (List.nodup_cons.mp nd).2
 |a::L,h=>by
  have ih:=part_sum g B nd L λx hx=>h x (YK _ hx)
  have h1:=one_sum (g a) B nd
  rw[Yc (h a (YQ ..))]at h1
  have e:∀b,((a::L).filter λa=>decide (g a=b)).length=(L.filter λa=>decide (g a=b)).length+if g a=b then 1 else 0:=λb=>by
   by_cases z:g a=b
   ·rw[List.filter_cons_of_pos (by simpa using z),Yn,Yc z]
   ·rw[List.filter_cons_of_neg (by simpa using z),Yb z];rfl
  have e2:∀(C:List β) (u v:β->Nat),(C.map λb=>u b+v b).sum=(C.map u).sum+(C.map v).sum:=λC u v=>by
   induction C with
   |nil=>rfl
   |cons x C ih=>simp only[YA,List.sum_cons,ih];omega
  rw[List.map_congr_left (λb _=>e b),e2,ih,h1,Yn]
theorem allN_len (m:Nat):∀k,(allN m k).length=m ^ k
 |0=>rfl
 |k+1=>by
  have:∀L:List (List Nat),(L.flatMap λr=>(List.range m).map λx=>r++[x]).length=L.length*m:=λL=>by
   induction L with
   |nil=>simp
   |cons x L ih=>rw[List.flatMap_cons,YD,ih,Yi,Y4,Yn,Nat.add_mul];omega
  show((allN m k).flatMap _).length=_
  rw[this,allN_len m k,Nat.pow_succ]
theorem rows_all {n:Nat} (h:n<6) (m:Nat):((treeL n).map λT=>manyC T m).sum=m ^ n:=by
 rw[<-allN_len,<-part_sum (λs=>Zaz (intR s)) (treeL n) (noDup_nd _ (treeL_nd n h)) (allN m n) λs hs=>by
  have hl:=((allN_mem m n s).mp hs).1
  have:=tree_in (ZbS (intR s)) (by simp[intR,hl];omega)
  rw[show(intR s).length=n by simp[intR,hl]]at this
  exact this]
 congr 1
 refine List.map_congr_left λT hT=>?_
 obtain⟨r,hr,hTr⟩:=in_tree h hT
 have eN:=hTr.1
 rw[<-rows_len hTr (by omega)]
 unfold rowsN
 rw[show T.length=n by omega]
theorem orders_all {n:Nat} (h:n<6):((treeL n).map λT=>((ZbX n).filter λr=>decide (Zaz r=T)).length).sum=ZL n:=by
 rw[<-allO_fac n h]
 refine part_sum Zaz (treeL n) (noDup_nd _ (treeL_nd n h)) (ZbX n) λr hr=>?_
 exact List.mem_of_elem_eq_true (List.all_eq_true.mp (treeL_in n h) r hr)
theorem sum_getD {α:Type} (L:List α) (d:α) (g:α->Nat):((List.range L.length).map λj=>((g (L.getD j d):Nat):Int)).sum=(((L.map g).sum:Nat):Int):=by
 have e:(List.range L.length).map (λq=>L.getD q d)=L:=by
  refine List.ext_getElem (by simp) λi h1 h2=>?_
  simp[Yg,h2]
 have h:∀M:List α,(M.map λx=>((g x:Nat):Int)).sum=(((M.map g).sum:Nat):Int):=λM=>by
  induction M with
  |nil=>rfl
  |cons x M ih=>simp only[YA,List.sum_cons,ih];omega
 rw[<-h L]
 conv=>rhs;rw[<-e,YU]
 rfl
noncomputable def sp__law_times:SpT:=λK mg vs H Q E=>∃(t:Addr) (ns T:List Int),vs=[.ref t]/\SqT K H t (T.map V.int)/\Zi ns T/\ns.length<=40/\∀H',Zf H H'->Q (.int ((prodF (szN (nth ns) ns.length) 0 ns.length:Nat):Int)) H'
noncomputable def sp__law_orders_of_all:SpT:=λK mg vs H Q E=>∃n:Nat,vs=[.int n]/\n<=40/\Q (.int (ZL n:Nat)) H
noncomputable def sp__law_tree_right:SpT:=λK mg vs H Q E=>∃(t:Addr) (ns T:List Int) (m:Nat),vs=[.ref t,.int m]/\TupQ H t T/\Zi ns T/\T.length<=12/\m<=12/\ZbA K mg "from_below" H/\∀H',Zf H H'->Q (.bl true) H'
noncomputable def TrsAt (H:Hp) (l:Addr) (L:List (List Int)):Prop:=∃as:List Addr,H l=some (.lst (as.map V.ref))/\as.length=L.length/\∀i (h1:i<as.length) (h2:i<L.length),TupQ H as[i] L[i]
theorem TrsAt.same {H H':Hp}{l:Addr}{L:List (List Int)} (h:TrsAt H l L) (s:Zf H H'):TrsAt H' l L:=by
 obtain⟨as,h1,h2,h3⟩:=h
 exact⟨as,s _ _ h1,h2,λi a b=>(h3 i a b).same s⟩
theorem TrsAt.sq {K:PySem.W.Frag}{H:Hp}{l:Addr}{L:List (List Int)} (R:TrsAt H l L):∃xs,SqL K H l xs:=by
 obtain⟨as,e,_⟩:=R
 exact⟨_,SqL.of e⟩
theorem TrsAt.walk {K:PySem.W.Frag}{H1:Hp}{d:Addr}{rs:List (List Int)} (R:TrsAt H1 d rs):(∀i H,Zf H1 H->i<rs.length->(Itl K d).go i H)/\(∀H,Zf H1 H->(Itl K d).stop rs.length H) /\
  ∀i x H H' (h:i<rs.length),Zf H1 H->(Itl K d).yld i H x H'->H'=H/\∃a,x=.ref a/\TupQ H a rs[i]:=by
 obtain⟨as,e,hl,hh⟩:=R
 refine⟨λi H s hi=>⟨_,V.ref (as[i]'(by omega)),SqL.of (s _ _ e),by simp[show i<as.length by omega]⟩,λH s=>⟨_,SqL.of (s _ _ e),by simp[hl]⟩,λi x H H' hi s y=>?_⟩
 obtain⟨e1,y⟩:=y
 have h1:=y _ (SqL.of (s _ _ e))
 rw[YE,Yh (show i<as.length by omega)]at h1
 cases h1
 exact⟨e1,_,rfl,(hh i (by omega) hi).same s⟩
section
variable {P:Program}{w:World}{K:PySem.W.Frag}{mg:Str->Option Value}{base:Heap}
theorem sc_settle:FnScope ["elders","spine","place","keep"] ["elders","spine","place","keep"] (defScope s_settle):=⟨rfl,rfl,rfl,by decide +kernel,rfl,by decide +kernel,by decide +kernel⟩
theorem sc_tree_of:FnScope ["row","elders","spine","place","keep"] ["row"] (defScope s_tree_of):=⟨rfl,rfl,rfl,by decide +kernel,rfl,by decide +kernel,by decide +kernel⟩
theorem sc_way_up:FnScope ["tree","place","way","at"] ["tree","place"] (defScope s_way_up):=⟨rfl,rfl,rfl,by decide +kernel,rfl,by decide +kernel,by decide +kernel⟩
theorem sc_is_tree:FnScope ["tree","depths"] ["tree"] (defScope s_is_tree):=⟨rfl,rfl,rfl,by decide +kernel,rfl,by decide +kernel,by decide +kernel⟩
theorem sc_need_tree:FnScope ["tree"] ["tree"] (defScope s_need_tree):=⟨rfl,rfl,rfl,by decide +kernel,rfl,by decide +kernel,by decide +kernel⟩
theorem sc_fences_of:FnScope ["tree","fences","place","way","ahead","behind"] ["tree"] (defScope s_fences_of):=⟨rfl,rfl,rfl,by decide +kernel,rfl,by decide +kernel,by decide +kernel⟩
theorem sc_young_of:FnScope ["tree","young","place","elder"] ["tree"] (defScope s_young_of):=⟨rfl,rfl,rfl,by decide +kernel,rfl,by decide +kernel,by decide +kernel⟩
theorem sc_from_below:FnScope ["tree"] ["tree"] (defScope s_from_below):=⟨rfl,rfl,rfl,by decide +kernel,rfl,by decide +kernel,by decide +kernel⟩
theorem sc_need_count:FnScope ["n"] ["n"] (defScope s_need_count):=⟨rfl,rfl,rfl,by decide +kernel,rfl,by decide +kernel,by decide +kernel⟩
theorem sc_running_sums:FnScope ["numbers","sums","total","number"] ["numbers"] (defScope s_running_sums):=⟨rfl,rfl,rfl,by decide +kernel,rfl,by decide +kernel,by decide +kernel⟩
theorem sc_one_more:FnScope ["ends","told"] ["ends"] (defScope s_one_more):=⟨rfl,rfl,rfl,by decide +kernel,rfl,by decide +kernel,by decide +kernel⟩
theorem sc_climbs:FnScope ["n","most","ends","step"] ["n","most"] (defScope s_climbs):=⟨rfl,rfl,rfl,by decide +kernel,rfl,by decide +kernel,by decide +kernel⟩
theorem sc_many_trees:FnScope ["n"] ["n"] (defScope s_many_trees):=⟨rfl,rfl,rfl,by decide +kernel,rfl,by decide +kernel,by decide +kernel⟩
theorem sc_many_flat:FnScope ["n","most"] ["n","most"] (defScope s_many_flat):=⟨rfl,rfl,rfl,by decide +kernel,rfl,by decide +kernel,by decide +kernel⟩
theorem sc_spans_of:FnScope ["tree"] ["tree"] (defScope s_spans_of):=⟨rfl,rfl,rfl,by decide +kernel,rfl,by decide +kernel,by decide +kernel⟩
theorem sc_need_short:FnScope ["told"] ["told"] (defScope s_need_short):=⟨rfl,rfl,rfl,by decide +kernel,rfl,by decide +kernel,by decide +kernel⟩
theorem sc_by_drops:FnScope ["told","elders","spine","place","drop"] ["told"] (defScope s_by_drops):=⟨rfl,rfl,rfl,by decide +kernel,rfl,by decide +kernel,by decide +kernel⟩
theorem sc_pick:FnScope ["ways","number","at"] ["ways","number"] (defScope s_pick):=⟨rfl,rfl,rfl,by decide +kernel,rfl,by decide +kernel,by decide +kernel⟩
theorem sc_goings_on:FnScope ["n","table","step"] ["n"] (defScope s_goings_on):=⟨rfl,rfl,rfl,by decide +kernel,rfl,by decide +kernel,by decide +kernel⟩
theorem sc_drop_ways:FnScope ["goings","still"] ["goings","still"] (defScope s_drop_ways):=⟨rfl,rfl,rfl,by decide +kernel,rfl,by decide +kernel,by decide +kernel⟩
theorem sc_tree_at:FnScope ["n","number","table","drops","still","left","drop"] ["n","number"] (defScope s_tree_at):=⟨rfl,rfl,rfl,by decide +kernel,rfl,by decide +kernel,by decide +kernel⟩
theorem sc_need_few:FnScope ["many","m"] ["many","m"] (defScope s_need_few):=⟨rfl,rfl,rfl,by decide +kernel,rfl,by decide +kernel,by decide +kernel⟩
theorem sc_span_ways:FnScope ["tree","young","m","ways","place","ahead","behind","each"] ["tree","young","m"] (defScope s_span_ways):=⟨rfl,rfl,rfl,by decide +kernel,rfl,by decide +kernel,by decide +kernel⟩
theorem sc_Filling___init__:FnScope ["self","tree","m"] ["self","tree","m"] (defScope s_Filling___init__):=⟨rfl,rfl,rfl,by decide +kernel,rfl,by decide +kernel,by decide +kernel⟩
theorem sc_Filling_how_many_rows:FnScope ["self"] ["self"] (defScope s_Filling_how_many_rows):=⟨rfl,rfl,rfl,by decide +kernel,rfl,by decide +kernel,by decide +kernel⟩
theorem sc_Filling_outside_ways:FnScope ["self","place"] ["self","place"] (defScope s_Filling_outside_ways):=⟨rfl,rfl,rfl,by decide +kernel,rfl,by decide +kernel,by decide +kernel⟩
theorem sc_Filling_outside_by_elder:FnScope ["self","place","elder","least"] ["self","place","elder"] (defScope s_Filling_outside_by_elder):=⟨rfl,rfl,rfl,by decide +kernel,rfl,by decide +kernel,by decide +kernel⟩
theorem sc_Filling_onward_ways:FnScope ["self","place","behind"] ["self","place"] (defScope s_Filling_onward_ways):=⟨rfl,rfl,rfl,by decide +kernel,rfl,by decide +kernel,by decide +kernel⟩
theorem sc_Filling_next_ways:FnScope ["self","place","ahead","above"] ["self"] (defScope s_Filling_next_ways):=⟨rfl,rfl,rfl,by decide +kernel,rfl,by decide +kernel,by decide +kernel⟩
theorem sc_many_rows:FnScope ["tree","m"] ["tree","m"] (defScope s_many_rows):=⟨rfl,rfl,rfl,by decide +kernel,rfl,by decide +kernel,by decide +kernel⟩
theorem sc_row_at:FnScope ["tree","m","number","filling","place","chosen"] ["tree","m","number"] (defScope s_row_at):=⟨rfl,rfl,rfl,by decide +kernel,rfl,by decide +kernel,by decide +kernel⟩
theorem sc_number_of_row:FnScope ["row","m","filling","at","number"] ["row","m"] (defScope s_number_of_row):=⟨rfl,rfl,rfl,by decide +kernel,rfl,by decide +kernel,by decide +kernel⟩
theorem sc_many_orders:FnScope ["tree","orders","bound","many","a","b"] ["tree"] (defScope s_many_orders):=⟨rfl,rfl,rfl,by decide +kernel,rfl,by decide +kernel,by decide +kernel⟩
theorem sc_flat_number:FnScope ["tree","place"] ["tree","place"] (defScope s_flat_number):=⟨rfl,rfl,rfl,by decide +kernel,rfl,by decide +kernel,by decide +kernel⟩
theorem sc_flattest:FnScope ["tree"] ["tree"] (defScope s_flattest):=⟨rfl,rfl,rfl,by decide +kernel,rfl,by decide +kernel,by decide +kernel⟩
theorem sc__law_pool:FnScope ["script","k","cell"] ["script","k"] (defScope s__law_pool):=⟨rfl,rfl,rfl,by decide +kernel,rfl,by decide +kernel,by decide +kernel⟩
theorem sc__law_pick:FnScope ["pool","many","digit"] ["pool","many"] (defScope s__law_pick):=⟨rfl,rfl,rfl,by decide +kernel,rfl,by decide +kernel,by decide +kernel⟩
theorem sc__law_size:FnScope ["pool","most"] ["pool","most"] (defScope s__law_size):=⟨rfl,rfl,rfl,by decide +kernel,rfl,by decide +kernel,by decide +kernel⟩
theorem sc__law_drops:FnScope ["pool","many","way","found","still","k","drop"] ["pool","many"] (defScope s__law_drops):=⟨rfl,rfl,rfl,by decide +kernel,rfl,by decide +kernel,by decide +kernel⟩
theorem sc__law_hung:FnScope ["drops","elders","still","place","drop","turn"] ["drops"] (defScope s__law_hung):=⟨rfl,rfl,rfl,by decide +kernel,rfl,by decide +kernel,by decide +kernel⟩
theorem sc__law_tree:FnScope ["pool","most"] ["pool","most"] (defScope s__law_tree):=⟨rfl,rfl,rfl,by decide +kernel,rfl,by decide +kernel,by decide +kernel⟩
theorem sc__law_times:FnScope ["tree","total","a","b"] ["tree"] (defScope s__law_times):=⟨rfl,rfl,rfl,by decide +kernel,rfl,by decide +kernel,by decide +kernel⟩
theorem sc__law_orders_of_all:FnScope ["n","total","k"] ["n"] (defScope s__law_orders_of_all):=⟨rfl,rfl,rfl,by decide +kernel,rfl,by decide +kernel,by decide +kernel⟩
theorem sc__law_tree_right:FnScope ["tree","m","flats"] ["tree","m"] (defScope s__law_tree_right):=⟨rfl,rfl,rfl,by decide +kernel,rfl,by decide +kernel,by decide +kernel⟩
theorem sc_law:FnScope ["script","k","pool","n","m","trees","due","rows","turn","tree","row"] ["script"] (defScope s_law):=⟨rfl,rfl,rfl,by decide +kernel,rfl,by decide +kernel,by decide +kernel⟩
theorem ok__law_pool {f:Addr}{fd:FuncData} (F:Fun K "_law_pool" "_law_pool" s__law_pool f fd) (T:Txt K mg):FnOk P w K mg base (CXE P w) 1 f fd ["script","k"] (sp__law_pool K mg):=by
 refine F.okX sc__law_pool (λvs H Q E h=>?_) (λcdv A outer s H vs Q E hr h=>?_)
 ·obtain⟨n,k,_,rfl,_⟩:=h;rfl
 obtain⟨a,ns,k,rfl,hS,h0,h1,k1⟩:=h
 refine⟨_,(Zd (Zm (i:=2) sc__law_pool.nd rfl (Or.inl rfl) Ze)
   (Zd (Z9 (Zx Zgs (pv 1) (Zk (Zp (K:=K) rfl) rfl T.b_len Yv (Za (pv 0) Zc)) (Zz _)) (Zg (Zm (i:=2) sc__law_pool.nd rfl (Or.inl rfl) (Zq ZeS (ZM Zu (pv 0) (pv 1) (λ_ _=>rfl)) (Zq Zai (Zq Zai (Zq Zai (Zq Zhl Ze Ze) (Zq Zhl Ze Ze)) (Zq Zhl Ze Ze)) (Zq Zhl Ze Ze))))) ZC)
   (Zg (Zs (ZX (Za (Zk (ZfZ rfl) rfl T.b_max Zht (Za Ze (Za (Zq Zbd (pv 2) (Zq Zhl Ze Ze)) Zc))) (Za (Zq ZeS (Zq Zai (Zq ZaX (Zq ZaX (Zq ZeS (pv 2) Ze) (Zq Zai Ze (pv 1))) Ze) Ze) Ze) Zc))))))),?_⟩
 simp only[tIfS,tNot,tTest,tChain,rI0,rI,rU,tVar,tC,tB,tIf,tOrV,tCall,tCons,tNil,tAsg,tSeq,tRet,tNext,tOp,tUn,tAnd,tOr,tDrop,gName,gSub,tAug,tCB,tSl,tRaise,tLst,tTup,L2.start,tYes,gTup,gCons,gNil,iniC,Option.join_some,Option.join_none,rEq,rNe,Zmi,Zmj,Zmk,Zml,Zmm,Zmn,tBM,Bool.true_eq_false,YA,List.map_nil,List.cons_append,List.nil_append,Yn,List.length_nil,List.replicate,List.append_nil,List.set_cons_zero,List.set_cons_succ,List.getElem?_cons_zero,List.getElem?_cons_succ,Option.some.injEq,V.int.injEq,V.bl.injEq,V.ref.injEq,List.cons.injEq,and_true,true_and,exists_eq_left,exists_eq_left',exists_and_left,exists_eq,decide_eq_true_eq,Bool.not_eq_true',decide_eq_false_iff_not,cxK,and_assoc,Bool.false_eq_true,↓reduceIte,Zmh,ZiL,Zkl,iRng1,iList,iTup,rIxL,rIxT,rSetL,rCat,rIsi,rSum,tDelT,rPop,rIntB,rLen,rTof,rTofF,rIsiS,tBMH,rIndexT,iSeq,tBM0,rEqD,tRngV,iEnum,iEnumT,tMaxDT,tMaxD,tMinD,rAll,ipM,rIxQ,tRev,rSlL,tPart,tNoPart,tSl,ipI,rAppend,rRep,Zmo,Zoe,iRevR,V.str.injEq,tFldC,sFldC,tMeth,tMake,tDNewK,tDGet,sDPut,tDNotIn,tLam,tSortR2,gLst,rIndexT,rTofF,rIsiS,tBMH,iEnumS,tDGetO,sDPutO,tDispO,cp64,cp18,pm1,pm2,pm3,pm4,pm5,pm6,pm7]
 refine⟨ns.map V.int,.inl hS,?_⟩
 refine Z2 (λhk=>?_) (λ_=>?_)
 ·obtain⟨j,rfl⟩:=Y6 h0
  have hj:j<(ns.map V.int).length:=by omega
  refine⟨_,hS,_,Zhv rfl hj,ns[j]'(by simpa using hj),by simp,Zoc (by omega) (by omega),mul_r (by omega) (by omega),λp hp=>k1 p _ hp ((Zf.refl H).upd hp) ⟨_,_,Zb,?_,Int.emod_nonneg _ (by decide),Int.emod_lt_of_pos _ (by decide)⟩⟩
  split<;>omega
 ·refine⟨Zoc (by omega) (by omega),mul_r (by omega) (by omega),λp hp=>k1 p _ hp ((Zf.refl H).upd hp) ⟨_,_,Zb,?_,Int.emod_nonneg _ (by decide),Int.emod_lt_of_pos _ (by decide)⟩⟩
  split<;>omega
theorem ok__law_pick {f:Addr}{fd:FuncData} (F:Fun K "_law_pick" "_law_pick" s__law_pick f fd) (T:Txt K mg):FnOk P w K mg base (CXE P w) 1 f fd ["pool","many"] (sp__law_pick K mg):=by
 refine F.okX sc__law_pick (λvs H Q E h=>?_) (λcdv A outer s H vs Q E hr h=>?_)
 ·obtain⟨n,k,rfl,_⟩:=h;rfl
 obtain⟨p,many,rfl,h0,h1,⟨x,y,hp,hx,hy,hy2⟩,k1⟩:=h
 refine⟨_,(Zd (Z9 (Zx ZbY (ZM Zu (pv 0) Ze (λ_ _=>rfl)) Ze (Zz _)) (Zd (Zm (i:=2) sc__law_pick.nd rfl (Or.inl rfl) (Zq ZeS (ZM Zu (pv 0) Ze (λ_ _=>rfl)) (pv 1)))
   (Zd (Zcj (Zq Zky (ZM Zu (pv 0) Ze (λ_ _=>rfl)) (pv 1)) (ZeR (pv 0) Ze set_list (λ_=>rfl)))
   (Zg (Zs (pv 2))))) ZC)
   (Zd (Zcj (Zq ZeS (Zq ZaX (Zq Zai (ZM Zu (pv 0) Ze (λ_ _=>rfl)) Ze) Ze) Ze) (ZeR (pv 0) Ze set_list (λ_=>rfl)))
   (Zg (Zs (Zq ZeS (Zq Zky (Zq ZeS (Zq Zai (ZM Zu (pv 0) Ze (λ_ _=>rfl)) (ZM Zu (pv 0) Ze (λ_ _=>rfl))) Ze) Ze) (pv 1)))))),?_⟩
 walk_at "rd"
 refine⟨_,SqL.of hp,_,rfl,_,rfl,?_⟩
 refine Z2 (λhk=>?_) (λ_=>?_)
 ·refine⟨_,SqL.of hp,_,rfl,_,rfl,h0,?_⟩
  refine⟨_,SqL.of hp,_,rfl,_,rfl,⟨h0,by omega⟩,_,hp,_,rfl,?_⟩
  exact k1 _ _ (Int.emod_nonneg _ (by omega)) (Int.emod_lt_of_pos _ h0) ⟨_,_,Zb,Int.ediv_nonneg hx (by omega),hy,hy2⟩ Exc.upd
 ·refine⟨_,SqL.of hp,_,rfl,_,rfl,?_⟩
  refine⟨mul_r (by omega) (by omega),by decide,_,hp,_,rfl,_,SqL.of Zb,_,rfl,_,SqL.of Zb,_,rfl,_,rfl,_,rfl,Zoc ?_ ?_,by decide,⟨by decide,by decide⟩,h0,?_⟩
  ·have:=Int.emod_nonneg (y*69621+12345) (b:=2147483647) (by decide);omega
  ·have:=Int.emod_lt_of_pos (y*69621+12345) (b:=2147483647) (by decide);omega
  ·exact k1 _ _ (Int.emod_nonneg _ (by omega)) (Int.emod_lt_of_pos _ h0) ⟨_,_,Zb,hx,Int.emod_nonneg _ (by decide),Int.emod_lt_of_pos _ (by decide)⟩ Exc.upd
theorem ok__law_size {f:Addr}{fd:FuncData} (F:Fun K "_law_size" "_law_size" s__law_size f fd) (Zw:Callee P w K mg base "_law_pick" 1 ["pool","many"] (sp__law_pick K mg)) (T:Txt K mg):FnOk P w K mg base (CXE P w) 2 f fd ["pool","most"] (sp__law_size K mg):=by
 refine F.okX sc__law_size (λvs H Q E h=>?_) (λcdv A outer s H vs Q E hr h=>?_)
 ·obtain⟨p,most,rfl,_⟩:=h;rfl
 obtain⟨p,most,rfl,h0,h1,hP,k1⟩:=h
 refine⟨_,(Zg (Zs (Zk (Zf0 rfl) rfl T.b_min Zhu (Za (pv 1) (Za (ZM Zhq (Zjj (Za (Zj Zw (hr.mono (by decide)) rfl Zn (Za (pv 0) (Za Ze Zc))) (Za (Zj Zw (hr.mono (by decide)) rfl Zn (Za (pv 0) (Za Ze Zc))) (Za (Zj Zw (hr.mono (by decide)) rfl Zn (Za (pv 0) (Za (Zq ZaX (pv 1) Ze) Zc))) (Za (pv 1) Zc))))) (Zj Zw (hr.mono (by decide)) rfl Zn (Za (pv 0) (Za Ze Zc))) (λ_ _=>rfl)) Zc))))),?_⟩
 walk_at "rd"
 refine⟨p,_,rfl,by decide,by decide,hP,λd1 H1 a1 b1 P1 e1=>⟨p,_,rfl,by decide,by decide,P1,λd2 H2 a2 b2 P2 e2=>⟨p,_,rfl,by omega,by omega,P2,λd3 H3 a3 b3 P3 e3=>⟨by decide,λq hq=>⟨p,_,rfl,by decide,by decide,P3.upd hq,λd4 H4 a4 b4 P4 e4=>?_⟩⟩⟩⟩⟩
 have hq4:=e4 q _ (P3.ne hq) Zb
 obtain⟨v,hv,n,rfl,hn⟩:=Zqp (xs:=[V.int d1,V.int d2,V.int d3,V.int most]) (i:=d4) (λv=>∃n:Int,v=V.int n/\0<=n) a4 b4 (by
  intro x hx
  simp at hx
  rcases hx with rfl|rfl|rfl|rfl<;>exact⟨_,rfl,by assumption⟩)
 refine⟨_,d4,rfl,SqT.of hq4,_,hv,n,rfl,k1 _ _ ?_ ?_ P4 (((e1.trans e2).trans e3).same ((Zf.refl H3).upd hq) |>.trans e4)⟩
 ·split<;>omega
 ·split<;>omega
theorem ok_need_count {f:Addr}{fd:FuncData} (F:Fun K "need_count" "need_count" s_need_count f fd) (T:Txt K mg):FnOk P w K mg base (CXE P w) 1 f fd ["n"] (sp_need_count K mg):=by
 refine F.okX sc_need_count (λvs H Q E h=>?_) (λcdv A outer s H vs Q E hr h=>?_)
 ·obtain⟨n,rfl,_⟩:=h;rfl
 obtain⟨n,rfl,k1,k2⟩:=h
 refine⟨_,(Zg (Z9 (Zci (Zcz ZeF ZeF Ze (pv 0) (Zby (v:=.int 40) rfl T.m_MOST_PLACES ⟨_,rfl⟩))) (Zg (Zbo rfl rfl T.c_TooMany T.x_TooMany (Za (Za0 (Zab (by decide) (Zcl (Zby (v:=.int 40) rfl T.m_MOST_PLACES ⟨_,rfl⟩) (Zab (by decide) Zdv)))) Zc) Zb1)) ZC)),?_⟩
 walk_at "rd"
 by_cases h0:0<=n
 ·rw[Yc h0]
  by_cases h1:n<=40
  ·rw[Yb (not_not_intro h1)];exact k1 ⟨h0,h1⟩
  ·rw[Yc h1];exact⟨by decide,by decide,λy=>⟨by decide,k2 (by omega)⟩⟩
 ·rw[Yb h0]
  exact⟨by decide,by decide,λy=>⟨by decide,k2 (by omega)⟩⟩
theorem ok_settle {f:Addr}{fd:FuncData} (F:Fun K "settle" "settle" s_settle f fd) (T:Txt K mg):FnOk P w K mg base (CXE P w) 1 f fd ["elders","spine","place","keep"] (sp_settle K mg):=by
 refine F.okX sc_settle (λvs H Q E h=>?_) (λcdv A outer s H vs Q E hr h=>?_)
 ·obtain⟨el,sp,es,A,B,i,rfl,_⟩:=h;rfl
 obtain⟨el,sp,es,A',B,i,rfl,hel,hsp,hne,hi,hq,hlen,k1⟩:=h
 refine⟨_,(Zd (Z9 (Zx Zgs (pv 3) (Zk (Zp (K:=K) rfl) rfl T.b_len Yv (Za (pv 1) Zc)) (Zz _)) (Zg (Zcj (pv 2) (ZeR (pv 0) (ZM Zu (pv 1) (pv 3) (λ_ _=>rfl)) set_list (λ_=>rfl)))) ZC)
   (Zd (Z9 (Zx ZbY (pv 3) Ze (Zz _)) (Zg (Zcj (ZM Zu (pv 1) (Zq Zbd (pv 3) Ze) (λ_ _=>rfl)) (ZeR (pv 0) (pv 2) set_list (λ_=>rfl)))) ZC)
   (Zd (Zlr (pv 1) (pv 3))
   (Zg (ZN (ZeG PySem.F.plainAttrs_list PySem.F.slot_list_append PySem.F.type_list_append Zau (pv 1) (Za (pv 2) Zc))))))),?_⟩
 walk_at "rd"
 have hb1:(Zr A').length<sizeLine:=by
  rw[ZV]
  rw[YD]at hlen
  exact Ys (show _<=1000 by omega) (by decide)
 have etk:List.take A'.length (Zr (A'++B))=Zr A':=by
  rw[ZbL]
  have:A'.length=(Zr A').length:=(ZV A').symm
  rw[this,List.take_left]
 have hle:A'.length<=(Zr (A'++B)).length:=by rw[ZV,YD];omega
 have esn:Zr A'++[V.int (i:Nat)]=Zr (A'++[i]):=by rw[ZbL];rfl
 refine⟨_,.inl (SqL.of hsp),?_⟩
 rw[ZV,YD]
 -- the end: behind the two stores
 have fin:∀(es1:List Int) (Hx:Hp),(∀b o,b≠el->b≠sp->H b=some o->Hx b=some o)->Hx el=some (.lst (es1.map V.int))->Hx sp=some (.lst (Zr (A'++B)))->es1=Zbq es A' B i ->
   ∃(xs:List V) (k:Nat),(A'.length:Int)=(k:Int)/\Hx sp=some (HO.lst xs)/\k<=xs.length/\tyV K "list" (V.ref sp) (upd Hx sp (HO.lst (List.take k xs)))/\∃x,upd Hx sp (HO.lst (List.take k xs)) sp=some (HO.lst x)/\x.length<sizeLine/\Q V.non (upd (upd Hx sp (HO.lst (List.take k xs))) sp (HO.lst (x++[V.int (i:Nat)]))):=by
  intro es1 Hx h1 h2 h3 h4
  refine⟨_,A'.length,rfl,h3,hle,Zam Zb,_,Zb,by rw[etk];exact hb1,k1 _ (λb o n1 n2 z=>by rw[Zh n2,Zh n2];exact h1 b o n1 n2 z) (by rw[Zh hne,Zh hne,h2,h4]) (by rw[Zb,etk,esn])⟩
 -- elders[place]=spine[keep-1]
 have mid:∀(es1:List Int) (Hx:Hp),(∀b o,b≠el->b≠sp->H b=some o->Hx b=some o)->Hx el=some (.lst (es1.map V.int))->es1.length=es.length->Hx sp=some (.lst (Zr (A'++B)))->∀q,A'.getLast?=some q->es1.set i (q:Int)=Zbq es A' B i ->
   ∃x,SqL K Hx sp x/\∃x_1,atI x ((A'.length:Int)-1)=some x_1/\∃x,Hx el=some (HO.lst x)/\∃x_2,ixN x.length (i:Int)=some x_2/\∃(xs:List V) (k:Nat),(A'.length:Int)=(k:Int)/\upd Hx el (HO.lst (x.set x_2 x_1)) sp=some (HO.lst xs)/\k<=xs.length/\tyV K "list" (V.ref sp) (upd (upd Hx el (HO.lst (x.set x_2 x_1))) sp (HO.lst (List.take k xs))) /\
    ∃x_3,upd (upd Hx el (HO.lst (x.set x_2 x_1))) sp (HO.lst (List.take k xs)) sp=some (HO.lst x_3)/\x_3.length<sizeLine/\Q V.non (upd (upd (upd Hx el (HO.lst (x.set x_2 x_1))) sp (HO.lst (List.take k xs))) sp (HO.lst (x_3++[V.int (i:Nat)]))):=by
  intro es1 Hx h1 h2 hl1 h3 q hq h4
  have hpos:0<A'.length:=by
   cases A' with
   |nil=>cases hq
   |cons _ _=>simp
  have hat:(A'++B)[A'.length-1]?=some q:=by
   rw[YS (by omega)]
   rw[List.getLast?_eq_getElem?]at hq;exact hq
  have ei:((A'.length:Int)-1)=((A'.length-1:Nat):Int):=by omega
  refine⟨_,SqL.of h3,_,by rw[ei];exact ZhC hat,_,h2,i,by rw[Yi,hl1];exact Zhd hi,?_⟩
  have em:(es1.map V.int).set i (V.int (q:Nat))=(es1.set i (q:Int)).map V.int:=by rw[List.map_set]
  rw[em]
  exact fin _ _ (λb o n1 n2 z=>by rw[Zh n1];exact h1 b o n1 n2 z) Zb (by rw[Zh hne.symm];exact h3) h4
 cases B with
 |nil =>
  rw[Yb (by simp)]
  cases hq:A'.getLast? with
  |none =>
   have:A'=[]:=List.getLast?_eq_none_iff.mp hq
   rw[Yb (by rw[this];simp)]
   exact fin es H (λb o _ _ z=>z) hel hsp (by unfold Zbq;rw[hq];rfl)
  |some q =>
   have:A'≠[]:=λz=>by rw[z]at hq;cases hq
   rw[Yc (by have:=List.length_pos_iff.mpr this;omega)]
   exact mid es H (λb o _ _ z=>z) hel rfl hsp q hq (by unfold Zbq;rw[hq];rfl)
 |cons b Br =>
  rw[Yc (by simp;omega)]
  have hat:(A'++b::Br)[A'.length]?=some b:=by rw[YY (Yd _)];simp
  have hbn:b<es.length:=hq b (by simp)
  refine⟨_,SqL.of hsp,_,ZhC hat,_,_,rfl,hel,b,by rw[Yi];exact Zhd hbn,?_⟩
  have em:(es.map V.int).set b (V.int (i:Nat))=(es.set b (i:Int)).map V.int:=by rw[List.map_set]
  rw[em]
  cases hq2:A'.getLast? with
  |none =>
   have:A'=[]:=List.getLast?_eq_none_iff.mp hq2
   rw[Yb (by rw[this];simp)]
   exact fin (es.set b i) _ (λc o n1 n2 z=>by rw[Zh n1];exact z) Zb (by rw[Zh hne.symm];exact hsp) (by unfold Zbq;rw[hq2];rfl)
  |some q =>
   have:A'≠[]:=λz=>by rw[z]at hq2;cases hq2
   rw[Yc (by have:=List.length_pos_iff.mpr this;omega)]
   exact mid (es.set b i) _ (λc o n1 n2 z=>by rw[Zh n1];exact z) Zb (by simp) (by rw[Zh hne.symm];exact hsp) q hq2 (by unfold Zbq;rw[hq2];rfl)
theorem ok_tree_of {f:Addr}{fd:FuncData} (F:Fun K "tree_of" "tree_of" s_tree_of f fd) (ZcF:Callee P w K mg base "settle" 1 ["elders","spine","place","keep"] (sp_settle K mg)) (T:Txt K mg):FnOk P w K mg base (CXE P w) 2 f fd ["row"] (sp_tree_of K mg):=by
 refine F.okX sc_tree_of (λvs H Q E h=>?_) (λcdv A outer s H vs Q E hr h=>?_)
 ·obtain⟨r,ns,rfl,_⟩:=h;rfl
 obtain⟨r,ns,rfl,hS,hn,k1⟩:=h
 refine⟨_,(Zd (Zm (i:=1) sc_tree_of.nd rfl (Or.inl rfl) (Zq ZcL (ZX (Za (Zbm ZaC Ze) Zc)) (Zk (Zp (K:=K) rfl) rfl T.b_len Yv (Za (pv 0) Zc))))
   (Zd (Zm (i:=2) sc_tree_of.nd rfl (Or.inl rfl) (ZX Zc))
   (Zd (Z3 (Zae PassesOwn.never rfl (ZZ rfl T.b_range (Za (Zk (Zp (K:=K) rfl) rfl T.b_len Yv (Za (pv 0) Zc)) Zc)) (Zl (i:=3) sc_tree_of.nd rfl (Or.inl rfl)) (Zd (Zm (i:=4) sc_tree_of.nd rfl (Or.inl rfl) (Zk (Zp (K:=K) rfl) rfl T.b_len Yv (Za (pv 2) Zc)))
   (Zd (Z3 (Zhj PassesOwn.never (PW.pt (Zjf (Zx ZbY (pv 4) Ze (Zz _)) (Zha (Zx ZbY (ZM (ix_q (K:=K) rfl) (pv 0) (ZM Zu (pv 2) (Zq Zbd (pv 4) Ze) (λ_ _=>rfl)) (λ_ _=>rfl)) (ZM (ix_q (K:=K) rfl) (pv 0) (pv 3) (λ_ _=>rfl)) (Zz _))))) (Zg (Zdr (i:=4) sc_tree_of.nd rfl (Or.inl rfl) Ze ZnU))))
   (Zg (ZN (Zj ZcF (hr.mono (by decide)) rfl Zn (Za (pv 1) (Za (pv 2) (Za (pv 3) (Za (pv 4) Zc)))))))))))
   (Zg (Zs (Zat (Zi6 (K:=K) rfl) rfl T.b_tuple ZaQ (Za (pv 1) Zc))))))),?_⟩
 walk_at "rd"
 have eL:(ns.map V.int).length=ns.length:=Yi ..
 refine⟨by decide,λp hp=>⟨_,((Zf.refl H).upd hp).q hS,_,Zb,by omega,by rw[eL];omega,?_,λel hel=>⟨Ym _,λsp hsp=>?_⟩⟩⟩
 ·exact Yf (show _<=1000 by simp;omega) (by decide)
 have s0:Zf H (upd (upd (upd H p (.lst [V.int (-1)])) el (.lst (List.replicate (((ns.map V.int).length:Nat):Int).toNat [V.int (-1)]).flatten)) sp (.lst [])):=(((Zf.refl H).upd hp).ZJ hel).ZJ hsp
 refine⟨_,s0.q hS,by omega,by rw[eL];omega,?_⟩
 have en:(((ns.map V.int).length:Nat):Int).toNat=ns.length:=by rw[eL];omega
 have hel0:(upd (upd (upd H p (.lst [V.int (-1)])) el (.lst (List.replicate (((ns.map V.int).length:Nat):Int).toNat [V.int (-1)]).flatten)) sp (.lst [])) el=some (.lst ((List.replicate ns.length (-1:Int)).map V.int)):=by
  have:=((Zf.refl _).ZJ (o:=.lst []) hsp) el _ Zb
  rw[this,en];simp
 have hsp0:(upd (upd (upd H p (.lst [V.int (-1)])) el (.lst (List.replicate (((ns.map V.int).length:Nat):Int).toNat [V.int (-1)]).flatten)) sp (.lst [])) sp=some (.lst (Zr [])):=Zb
 have nes:el≠sp:=λz=>by
  subst z
  rw[Zb]at hsp;cases hsp
 have zel:H el=none:=((Zf.refl H).upd hp).free hel
 have zsp:H sp=none:=(((Zf.refl H).upd hp).ZJ hel).free hsp
 rw[en]at hel0 hsp0 s0⊢
 generalize (upd (upd (upd H p (.lst [V.int (-1)])) el (.lst (List.replicate ns.length [V.int (-1)]).flatten)) sp (.lst []))=H0 at s0 hel0 hsp0⊢
 refine Zas (λi σ Hx=>∃(es:List Int) (S:List Nat) (v3 v4:Option V),σ=[some (.ref r),some (.ref el),some (.ref sp),v3,v4]/\Zf H Hx/\Hx el=some (.lst (es.map V.int))/\Hx sp=some (.lst (Zr S))/\es.length=ns.length/\Zgz (nth ns) i S/\(∀p e,p<i->e=es.getD p 0->Zy (nth ns) i p e)/\∀p,i<=p->p<ns.length->es.getD p 0=-1)
  ⟨List.replicate ns.length (-1),[],none,none,rfl,s0,hel0,hsp0,by simp,⟨List.Pairwise.nil,λq=>by simp⟩,λp e hp=>by omega,λp _ hp=>by simp[Yg,hp]⟩ ?_ ?_
 ·rintro i σ Hx hi ⟨es,S,v3,v4,rfl,sx,hxe,hxs,hesl,hS2,hE,hE2⟩
  walk_at "rd"
  have hin:i<ns.length:=by omega
  have hSl:S.length<=1000:=by
   rcases Zls S i 0 hS2.1 (λq hq=>⟨Ym _,((hS2.2 q).mp hq).1⟩)with z|z
   ·omega
   ·rw[z];simp
  refine⟨_,.inl (SqL.of hxs),?_⟩
  rw[ZV]
  refine Zju S.length (λj σ Hy=>∃A B,S=A++B/\B.length=j/\(∀q∈B,nth ns i<nth ns q)/\σ=[some (.ref r),some (.ref el),some (.ref sp),some (.int (0+(i:Int))),some (.int (A.length:Nat))]/\Hy=Hx) ⟨S,[],by simp,rfl,(λq hq=>absurd hq (by simp)),rfl,rfl⟩ ?_
  rintro j σ Hy hj ⟨A,B,hAB,hBl,hBg,rfl,rfl⟩
  walk_at "rd"
  have hmem:∀q,q∈A++B->q<i:=λq hq=>((hS2.2 q).mp (by rw[hAB];exact hq)).1
  have hix:(0+(i:Int))=(i:Int):=by omega
  rw[hix]
  by_cases hA0:A=[]
  case' pos =>
   rw[Yb (by rw[hA0];simp)]
   have hA:∀q∈A,nth ns q<=nth ns i:=λq hq=>absurd hq (by rw[hA0];simp)
  case' neg =>
   obtain⟨q,Al,rfl⟩:∃q Al,A=Al++[q]:=⟨A.getLast hA0,A.dropLast,(List.dropLast_concat_getLast hA0).symm⟩
   have hal:(Al++[q]).length=Al.length+1:=by simp
   rw[Yc (by rw[hal];omega)]
   have eiA:(((Al++[q]).length:Nat):Int)-1=(Al.length:Int):=by rw[hal];omega
   have hat:S[Al.length]?=some q:=by
    rw[hAB,YT,YY (Yd _)];simp
   have hqi:q<i:=hmem q (by simp)
   refine⟨_,SqL.of hxs,_,by rw[eiA];exact ZhC hat,_,_,rfl,sx.q hS,_,Zdw (by omega),_,sx.q hS,_,Zdw hin,_,rfl,_,rfl,Z2 (λhlt=>?_) (λhge=>?_)⟩
   ·have hj2:j+1<=S.length:=by rw[hAB,YD,hal];omega
    refine⟨_,WI.next,hj2,Al,q::B,by rw[hAB];simp,by simp[hBl],λx hx=>?_,by rw[eiA],rfl⟩
    rcases Yo.mp hx with z|z
    ·rw[z];exact hlt
    ·exact hBg x z
   have hA:∀x∈Al++[q],nth ns x<=nth ns i:=λx hx=>by
    by_cases z:x=q
    ·rw[z];omega
    ·have hxa:x∈Al:=by
      rcases Yz.mp hx with y|y
      ·exact y
      ·exact absurd (by simpa using y) z
     have hpw:=hS2.1
     rw[hAB]at hpw
     have hxq:x<q:=(List.pairwise_append.mp (List.pairwise_append.mp hpw).1).2.2 x hxa q (by simp)
     have:=((hS2.2 x).mp (by rw[hAB];exact YN _ hx)).2 q hxq hqi
     omega
   generalize Al++[q]=A at hA hAB hmem hA0⊢
  all_goals
   have SS:=ZeT (f:=nth ns) (i:=i) (A:=A) (B:=B) (by rw[<-hAB];exact hS2) hA hBg
   refine⟨el,sp,es,A,B,i,rfl,hxe,by rw[<-hAB];exact hxs,nes,by omega,λq hq=>by have:=hmem q hq;omega,by rw[<-hAB];exact hSl,λH' q1 q2 q3=>?_⟩
   have hbi:∀b,B.head?=some b->b≠i:=λb hb=>by
    have:=hmem b (Yq _ (List.mem_of_head? hb));omega
   refine⟨λb o z=>q1 b o (Zo z zel) (Zo z zsp) (sx b o z),Zbq es A B i,q2,A++[i],q3,by rw[Zfv];exact hesl,SS.1,λp e hp he=>?_,λp hp1 hp2=>?_⟩
   ·rw[Zex _ _ _ _ _ (by omega) hbi]at he
    by_cases z:p=i
    ·subst z
     rw[Yc rfl,hE2 p (Yd _) (by omega)]at he
     rw[he];exact SS.2.1
    ·rw[Yb z]at he
     rw[he]
     exact SS.2.2 p _ (by omega) (hE p _ (by omega) rfl)
   ·rw[Zex _ _ _ _ _ (by omega) hbi,Yb (by omega),Yb (λz=>?_)]
    ·exact hE2 p (by omega) hp2
    ·have:=hmem p (Yq _ (List.mem_of_head? z));omega
 ·rintro σ Hx ⟨es,S,v3,v4,rfl,sx,hxe,hxs,hesl,hS2,hE,hE2⟩
  walk_at "rd"
  exact⟨_,SqL.of hxe,λt H7 zt s7 ht=>k1 t es H7 ⟨hesl,λp hp=>hE p _ hp rfl⟩ (sx.trans s7) ht⟩
theorem ok_way_up {f:Addr}{fd:FuncData} (F:Fun K "way_up" "way_up" s_way_up f fd) (T:Txt K mg):FnOk P w K mg base (CXE P w) 1 f fd ["tree","place"] (sp_way_up K mg):=by
 refine F.okX sc_way_up (λvs H Q E h=>?_) (λcdv A outer s H vs Q E hr h=>?_)
 ·obtain⟨t,T,p,rfl,_⟩:=h;rfl
 obtain⟨t,T',p,rfl,ht,hn,hp,k1⟩:=h
 refine⟨_,(Zd (Zm (i:=2) sc_way_up.nd rfl (Or.inl rfl) (ZX Zc))
   (Zd (Zm (i:=3) sc_way_up.nd rfl (Or.inl rfl) (ZM Zhq (pv 0) (pv 1) (λ_ _=>rfl)))
   (Zd (Z3 (Zhj PassesOwn.never (PW.pt (Zjf (Zcz ZeF Zgs Ze (pv 3) (Zk (Zp (K:=K) rfl) rfl T.b_len Yv (Za (pv 0) Zc))) (Zha (Zx Zgs (Zk (Zp (K:=K) rfl) rfl T.b_len Yv (Za (pv 2) Zc)) (Zk (Zp (K:=K) rfl) rfl T.b_len Yv (Za (pv 0) Zc)) (Zz _))))) (Zd (ZN (ZeG PySem.F.plainAttrs_list PySem.F.slot_list_append PySem.F.type_list_append Zau (pv 2) (Za (pv 3) Zc)))
   (Zg (Zm (i:=3) sc_way_up.nd rfl (Or.inl rfl) (ZM Zhq (pv 0) (pv 3) (λ_ _=>rfl)))))))
   (Zg (Zs (pv 2)))))),?_⟩
 walk_at "rd"
 refine⟨Ym _,λl hl=>⟨_,(((Zf.refl H).upd hl).Zbp ht),_,Zdw hp,?_⟩⟩
 refine Zju T'.length (λj σ Hx=>Zf H Hx/\Hx l=some (.lst (Zr (Zaf T' j (nth T' p))))/\(Zaf T' j (nth T' p)).length=j/\σ=[some (.ref t),some (.int p),some (.ref l),some (.int (ZaO T' j (nth T' p)))]) ⟨(Zf.refl H).upd hl,Zb,rfl,rfl⟩ ?_
 rintro j σ Hx hj ⟨sx,hxl,hjl,rfl⟩
 walk_at "rd"
 have hlen:(Zr (Zaf T' j (nth T' p))).length=j:=by rw[ZV];exact hjl
 have eL:(T'.map V.int).length=T'.length:=Yi ..
 have done:(j=T'.length\/¬ (0<=ZaO T' j (nth T' p)/\ZaO T' j (nth T' p)<T'.length))->Q (.ref l) Hx:=λz=>by
  refine k1 l Hx hl sx ?_
  have:Zaf T' T'.length (nth T' p)=Zaf T' j (nth T' p):=by
   rcases z with z|z
   ·rw[<-z]
   ·exact ZiR T' j _ _ hj hjl z
  rw[hxl];unfold wayI;rw[this];simp[Zr]
 refine Z2 (λh0=>⟨_,.inr ((sx.Zbp ht)),Z2 (λh1=>⟨_,.inl (SqL.of hxl),_,.inr ((sx.Zbp ht)),Z2 (λh2=>?_) λh2=>done (.inl (by rw[hlen,eL]at h2;omega))⟩) λh1=>done (.inr (by rw[eL]at h1;omega))⟩) λh0=>done (.inr (by omega))
 rw[eL]at h1;rw[hlen,eL]at h2
 obtain⟨a1,a2⟩:=ZiQ T' j (nth T' p) h0 h1 hjl
 have ei:ZaO T' j (nth T' p)=(((ZaO T' j (nth T' p)).toNat:Nat):Int):=by omega
 refine⟨_,WI.next,Zam hxl,_,hxl,by rw[hlen];exact Ys (show _<=1000 by omega) (by decide),_,(sx.upd hl).Zbp ht,_,(congrArg (atI _) ei).trans (Zdw (by omega)),by omega,sx.upd hl,?_,?_,?_⟩
 ·rw[Zb,a1,ZbL]
  have:Zr [(ZaO T' j (nth T' p)).toNat]=[V.int (ZaO T' j (nth T' p))]:=by rw[ei];simp[Zr]
  rw[this]
 ·rw[a1];simp[hjl]
 ·rw[a2]
theorem ok_is_tree {f:Addr}{fd:FuncData} (F:Fun K "is_tree" "is_tree" s_is_tree f fd) (ZaM:Callee P w K mg base "tree_of" 2 ["row"] (sp_tree_of K mg)) (Zar:Callee P w K mg base "way_up" 1 ["tree","place"] (sp_way_up K mg)) (T:Txt K mg):FnOk P w K mg base (CXE P w) 3 f fd ["tree"] (sp_is_tree K mg):=by
 refine F.okX sc_is_tree (λvs H Q E h=>?_) (λcdv A outer s H vs Q E hr h=>?_)
 ·obtain⟨t,T,rfl,_⟩:=h;rfl
 obtain⟨t,T',rfl,ht,hn,k1,k2⟩:=h
 refine⟨_,(Zd (Z9 (PW.pt (Zl6 (Zci (Zhi (Zk (Znt (K:=K) rfl) rfl T.b_isinstance ZeH (Za (pv 0) (Za (Zl5 (v:=.ty "tuple") rfl T.b_tuple ZaQ rfl) Zc))))) (Zje (Zx ZbY (Zk (Zp (K:=K) rfl) rfl T.b_len Yv (Za (pv 0) Zc)) (Zby (v:=.int 40) rfl T.m_MOST_PLACES ⟨_,rfl⟩) (Zz _))))) (Zg (Zs Zfm)) ZC)
   (Zd (Zfy (i:=1) ["place","tree"] [none,some 0] sc_is_tree.nd rfl (Or.inl rfl) rfl rfl rfl (ZZ rfl T.b_range (Za (Zk (Zp (K:=K) rfl) rfl T.b_len Yv (Za (pv 0) Zc)) Zc)) (λ_ _ _ _ _=>(Zl (i:=0) (show(["place","tree"]:List Str).Nodup from by decide +kernel) rfl (Or.inl rfl))) (λ_ _ _ _ _=>ZaE) (λ_ _ _ _ _=>(Zk (Zp (K:=K) rfl) rfl T.b_len Yv (Za (Zj Zar (hr.mono (by decide)) rfl Zn (Za (pv 1) (Za (pv 0) Zc))) Zc))) ZQ)
   (Zg (Zs (ZcJ (Zoj (K:=K) rfl hr) (Zj ZaM (hr.mono (by decide)) rfl Zn (Za (pv 1) Zc)) (pv 0) (Zz _)))))),?_⟩
 walk_at "rd"
 have eL:(T'.map V.int).length=T'.length:=Yi ..
 refine⟨_,ht,_,.inr ht,Z2 (λz=>k2 (λg=>?_) _ (Zf.refl H)) λz=>⟨_,.inr ht,by omega,by rw[eL];omega,?_⟩⟩
 ·rw[eL]at z;have:=g.1;omega
 rw[eL]at z⊢
 have en:((T'.length:Nat):Int).toNat=T'.length:=by omega
 rw[en]
 refine comp_map (n:=T'.length) (λq=>V.int (nth (ZeU T') q)) (Ys hn (by decide)) (λj Hx s hj=>hj) (λHx s=>Yd _) ?_ ?_
 ·rintro j x Hx Hy hj s ⟨rfl,rfl⟩
  walk_at "rd"
  refine⟨t,T',j,by simp,s.Zbp ht,hn,hj,λl H9 hl s9 h9=>⟨l,rfl,_,.inl (SqL.of h9),CW.next hj ?_ (s.trans s9)⟩⟩
  rw[Zkr hj,Yi];simp[wayI]
 ·intro l' Hx s hl'
  have ed:(List.range T'.length).map (λq=>V.int (nth (ZeU T') q))=(ZeU T').map V.int:=by
   rw[<-Zft T'];exact range_getD _ _ V.int _ rfl
  rw[ed]
  have u:=s.ZJ (o:=.lst ((ZeU T').map V.int)) hl'
  refine⟨l',ZeU T',rfl,.inl (SqL.of Zb),by rw[Zft];exact hn,λt2 es H2 hT2 s2 ht2=>⟨t2,rfl,_,Zjt (n:=2) Zhc _ _ es T' (ZcA ht2.sq) (ZcA (((u.trans s2).Zbp ht))),?_⟩⟩
  by_cases g:es=T'
  ·rw[Y2 g];exact k1 ⟨by omega,_,g▸hT2⟩ _ (u.trans s2)
  ·rw[YR g];exact k2 (λgg=>g (hT2.unique ((Zm2 T').mp gg.2))) _ (u.trans s2)
theorem ok_need_tree {f:Addr}{fd:FuncData} (F:Fun K "need_tree" "need_tree" s_need_tree f fd) (Zge:Callee P w K mg base "is_tree" 3 ["tree"] (sp_is_tree K mg)) (T:Txt K mg):FnOk P w K mg base (CXE P w) 4 f fd ["tree"] (sp_need_tree K mg):=by
 refine F.okX sc_need_tree (λvs H Q E h=>?_) (λcdv A outer s H vs Q E hr h=>?_)
 ·obtain⟨t,T,rfl,_⟩:=h;rfl
 obtain⟨t,T',rfl,ht,hn,k1,k2⟩:=h
 refine⟨_,(Zg (Z9 (Zci (Zhi (Zj Zge (hr.mono (by decide)) rfl Zn (Za (pv 0) Zc)))) (Zg (Zbo rfl rfl T.c_NoTree T.x_NoTree (Za (Za0 (Zab (by decide) (Zcl (Zk (Zp (K:=K) rfl) rfl T.b_len Yv (Za (pv 0) Zc)) (Zab (by decide) Zdv)))) Zc) Zb1)) ZC)),?_⟩
 walk_at "rd"
 exact⟨t,T',rfl,ht,hn,λg H1 s1=>⟨true,rfl,Z2 (λz=>nomatch z) λ_=>k1 g _ s1⟩,λg H1 s1=>⟨false,rfl,Z2 (λ_=>⟨_,.inr ((s1.Zbp ht)),by omega,by rw[Yi];omega,λy=>⟨by decide,k2 g _ s1⟩⟩) λz=>absurd rfl z⟩⟩
theorem ok_fences_of {f:Addr}{fd:FuncData} (F:Fun K "fences_of" "fences_of" s_fences_of f fd) (Zar:Callee P w K mg base "way_up" 1 ["tree","place"] (sp_way_up K mg)) (T:Txt K mg):FnOk P w K mg base (CXE P w) 2 f fd ["tree"] (sp_fences_of K mg):=by
 refine F.okX sc_fences_of (λvs H Q E h=>?_) (λcdv A outer s H vs Q E hr h=>?_)
 ·obtain⟨t,ns,T,rfl,_⟩:=h;rfl
 obtain⟨t,ns,T',rfl,ht,hT,hn,k1⟩:=h
 refine⟨_,(Zd (Zm (i:=1) sc_fences_of.nd rfl (Or.inl rfl) (ZX Zc))
   (Zd (Z3 (Zae PassesOwn.never rfl (ZZ rfl T.b_range (Za (Zk (Zp (K:=K) rfl) rfl T.b_len Yv (Za (pv 0) Zc)) Zc)) (Zl (i:=2) sc_fences_of.nd rfl (Or.inr rfl)) (Zd (Zm (i:=3) sc_fences_of.nd rfl (Or.inl rfl) (Zj Zar (hr.mono (by decide)) rfl Zn (Za (pv 0) (Za (pv 2) Zc))))
   (Zd (Zm (i:=4) sc_fences_of.nd rfl (Or.inl rfl) (Zqw (K:=K) rfl rfl rfl T.b_max (Za (ZaR ["elder","place"] [none,some 2] rfl rfl rfl (Zbf (pv 3)) (λ_ _ _ _ _=>(Zl (i:=0) (show(["elder","place"]:List Str).Nodup from by decide +kernel) rfl (Or.inl rfl))) (λ_ _ _ _ _=>Zhs (Zx Zgs (pv 0) (pv 1) (Zz _))) (λ_ _ _ _ _=>(pv 0)) ZQ) Zc) (Zeq (Zbm ZaC Ze) Zhp)))
   (Zd (Zm (i:=5) sc_fences_of.nd rfl (Or.inl rfl) (Zqx (K:=K) rfl rfl rfl T.b_min (Za (ZaR ["elder","place"] [none,some 2] rfl rfl rfl (Zbf (pv 3)) (λ_ _ _ _ _=>(Zl (i:=0) (show(["elder","place"]:List Str).Nodup from by decide +kernel) rfl (Or.inl rfl))) (λ_ _ _ _ _=>Zhs (Zx ZbY (pv 0) (pv 1) (Zz _))) (λ_ _ _ _ _=>(pv 0)) ZQ) Zc) (Zeq (Zk (Zp (K:=K) rfl) rfl T.b_len Yv (Za (pv 0) Zc)) Zhp)))
   (Zg (ZN (ZeG PySem.F.plainAttrs_list PySem.F.slot_list_append PySem.F.type_list_append Zau (pv 1) (Za (Zjj (Za (pv 4) (Za (pv 5) Zc))) Zc)))))))))
   (Zg (Zs (pv 1))))),?_⟩
 walk_at "rd"
 have eT:T'.length=ns.length:=hT.1
 have eL:(T'.map V.int).length=T'.length:=Yi ..
 refine⟨Ym _,λp hp=>?_⟩
 have s0:Zf H (upd H p (.lst [])):=(Zf.refl H).upd hp
 refine⟨_,.inr ((s0.Zbp ht)),by omega,by rw[eL];omega,?_⟩
 have en:(((T'.map V.int).length:Nat):Int).toNat=ns.length:=by rw[eL];omega
 rw[en]
 have h0:ZaV (upd H p (.lst [])) p 0 (λp=>(Zax (nth ns) p,ZaB (nth ns) ns.length p)):=⟨[],Zb,rfl,λj q hq=>by simp at hq⟩
 generalize upd H p (.lst [])=H0 at s0 h0⊢
 refine Zas (λi σ Hx=>∃v2 v3 v4 v5,σ=[some (.ref t),some (.ref p),v2,v3,v4,v5]/\ZaV Hx p i (λp=>(Zax (nth ns) p,ZaB (nth ns) ns.length p))/\Zf H Hx) ⟨_,_,_,_,rfl,h0,s0⟩ ?_ ?_
 ·rintro i σ Hx hi ⟨v2,v3,v4,v5,rfl,hP,sx⟩
  have e0:((0:Int)+(i:Int))=(i:Int):=by omega
  rw[e0]
  have hpi:i<ns.length:=hi
  have hw1:(wayI T' i).length<=1000:=by simp only[wayI,Yi];exact Yf (Zfw _ _ _) (by omega)
  refine Zah (fun σ Hy=>∃w:Addr,σ=[some (.ref t),some (.ref p),some (.int (i:Int)),some (.ref w),v4,v5]/\Hy w=some (.lst ((wayI T' i).map V.int))/\ZaV Hy p i (λp=>(Zax (nth ns) p,ZaB (nth ns) ns.length p))/\Zf H Hy) (λR hR=>?_) ?_
  ·walk_at "rd"
   exact⟨t,T',i,rfl,sx.Zbp ht,by omega,by omega,λw H1 hw s1 h1=>hR _ _ ⟨w,rfl,h1,hP.same s1,sx.trans s1⟩⟩
  rintro σ Hy ⟨w,rfl,hw,hP1,sy⟩
  refine Zah (fun σ Hz=>σ=[some (.ref t),some (.ref p),some (.int (i:Int)),some (.ref w),some (.int (Zax (nth ns) i)),v5]/\Hz w=some (.lst ((wayI T' i).map V.int))/\ZaV Hz p i (λp=>(Zax (nth ns) p,ZaB (nth ns) ns.length p))/\Zf H Hz) (λR hR=>?_) ?_
  ·walk_at "rd"
   refine⟨⟨_,SqL.of hw⟩,ZiX (λo=>decide (o<(i:Int))) hw hw1 (λx Hy R hR=>?_) λl H2 s2 hl=>?_⟩
   ·walk_at "rd"
    exact hR
   have FA:=Zov hT hpi
   have g:=s2.ZJ (o:=.lst (((wayI T' i).filter λo=>decide (o<(i:Int))).map V.int)) hl
   refine⟨l,rfl,_,SqL.of Zb,λe=>?_,λhne m hm hmax=>?_⟩
   ·rw[<-FA.1 e]
    exact hR _ _ ⟨rfl,g _ _ hw,hP1.same g,sy.trans g⟩
   ·rw[FA.2 hne m hm hmax]
    exact hR _ _ ⟨rfl,g _ _ hw,hP1.same g,sy.trans g⟩
  clear hw hP1 sy Hy
  rintro σ Hy ⟨rfl,hw,hP1,sy⟩
  refine Zah (fun σ Hz=>σ=[some (.ref t),some (.ref p),some (.int (i:Int)),some (.ref w),some (.int (Zax (nth ns) i)),some (.int (ZaB (nth ns) ns.length i))]/\ZaV Hz p i (λp=>(Zax (nth ns) p,ZaB (nth ns) ns.length p))/\Zf H Hz) (λR hR=>?_) ?_
  ·walk_at "rd"
   refine⟨⟨_,SqL.of hw⟩,ZiX (λo=>decide ((i:Int)<o)) hw hw1 (λx Hy R hR=>?_) λl H2 s2 hl=>?_⟩
   ·walk_at "rd"
    exact hR
   have FB:=Zow hT hpi
   have g:=s2.ZJ (o:=.lst (((wayI T' i).filter λo=>decide ((i:Int)<o)).map V.int)) hl
   refine⟨_,.inr (((sy.trans g).Zbp ht)),l,rfl,_,SqL.of Zb,λe=>?_,λhne m hm hmin=>?_⟩
   ·rw[eL,eT,<-FB.1 e]
    exact hR _ _ ⟨rfl,hP1.same g,sy.trans g⟩
   ·rw[FB.2 hne m hm hmin]
    exact hR _ _ ⟨rfl,hP1.same g,sy.trans g⟩
  clear hw hP1 sy Hy
  rintro σ Hy ⟨rfl,hP1,sy⟩
  walk_at "rd"
  obtain⟨qs,hq1,hq2,hq3⟩:=id hP1
  refine⟨Zam hq1,by decide,λq hq=>?_⟩
  have g:=(Zf.refl Hy).upd (o:=.tup [.int (Zax (nth ns) i),.int (ZaB (nth ns) ns.length i)]) hq
  obtain⟨xs,hx1,hx2,hx3⟩:=(hP1.same g).push (q:=q) Zb
  have zp:H p=none:=hp
  refine⟨xs,hx1,Ys (show _<=1000 by omega) (by decide),hx3,λb o z=>?_⟩
  rw[Zh (Zo z zp)]
  exact(sy.trans g) b o z
 ·rintro σ Hx ⟨v2,v3,v4,v5,rfl,hP,sx⟩
  walk_at "rd"
  exact k1 p Hx sx hP
theorem ok_spans_of {f:Addr}{fd:FuncData} (F:Fun K "spans_of" "spans_of" s_spans_of f fd) (ZT:Callee P w K mg base "need_tree" 4 ["tree"] (sp_need_tree K mg)) (ZdE:Callee P w K mg base "fences_of" 2 ["tree"] (sp_fences_of K mg)) (T:Txt K mg):FnOk P w K mg base (CXE P w) 5 f fd ["tree"] (sp_spans_of K mg):=by
 refine F.okX sc_spans_of (λvs H Q E h=>?_) (λcdv A outer s H vs Q E hr h=>?_)
 ·obtain⟨t,T,rfl,_⟩:=h;rfl
 obtain⟨t,T',rfl,ht,hn,k⟩:=h
 refine⟨_,(Zd (ZN (Zj ZT (hr.mono (by decide)) rfl Za3 (Za (pv 0) Zc)))
   (Zg (Zs (ZaR ["ahead","behind"] [none,none] rfl rfl rfl (Zbf (Zj ZdE (hr.mono (by decide)) rfl Zn (Za (pv 0) Zc))) (λ_ _ _ _ _=>(Zmg (K:=K) (n:=2) rfl rfl (ZE (Zl (i:=0) (show(["ahead","behind"]:List Str).Nodup from by decide +kernel) rfl (Or.inl rfl)) (ZE (Zl (i:=1) (show(["ahead","behind"]:List Str).Nodup from by decide +kernel) rfl (Or.inl rfl)) Za2)))) (λ_ _ _ _ _=>ZaE) (λ_ _ _ _ _=>(Zjj (Za (Zq ZaX (pv 0) Ze) (Za (Zq Zbd (pv 1) Ze) Zc)))) (Zki (Zet ZQ (Zet ZQ Zkh))))))),?_⟩
 walk_at "rd"
 refine⟨t,T',rfl,ht,hn,λg H1 s1=>?_,λg H1 s1=>?_⟩
 ·rcases k with⟨ns,h40,hT,k1⟩|⟨ng,_⟩
  ·have eT:=hT.1
   refine⟨t,ns,T',rfl,s1.Zbp ht,hT,by omega,λl H2 s2 hP=>⟨l,rfl,?_⟩⟩
   obtain⟨qs,h1,h2,h3⟩:=hP
   refine⟨⟨_,SqL.of h1⟩,?_⟩
   refine Zfs (n:=ns.length) (λj acc Hz=>∃as:List Addr,acc=as.map V.ref/\as.length=j/\(∀i (h:i<as.length),Hz as[i]=some (.tup ([Zax (nth ns) i+1,ZaB (nth ns) ns.length i-1].map V.int)))/\Zf H2 Hz) (Ys (show _<=1000 by omega) (by decide)) ⟨[],rfl,rfl,(λi h=>absurd h (by simp)),Zf.refl _⟩ (λj acc Hz ⟨_,_,_,_,sz⟩ hj=>⟨_,_,SqL.of (sz _ _ h1),Yh (by rw[Yi];omega)⟩) (λacc Hz ⟨_,_,_,_,sz⟩=>⟨_,SqL.of (sz _ _ h1),by rw[Yi];omega⟩) ?_ ?_
   ·rintro j x acc Hz Hw hj hla ⟨as,rfl,hal,hat,sz⟩ ⟨rfl,hx⟩
    have ex:=hx _ (SqL.of (sz _ _ h1))
    obtain⟨q,hq⟩:∃q,qs[j]?=some q:=⟨qs[j]'(by omega),Yh (by omega)⟩
    rw[YE,hq]at ex
    cases ex
    have hq1:=sz _ _ (h3 j q hq)
    dsimp only at hq1
    walk_at "rd"
    refine⟨_,SqT.of hq1,rfl,_,_,rfl,_,_,rfl,rfl,_,rfl,_,rfl,by decide,λu hu=>?_⟩
    have g1:=(Zf.refl Hw).upd (o:=.tup [V.int (Zax (nth ns) j+1),V.int (ZaB (nth ns) ns.length j-1)]) hu
    refine CA.take hj hla ⟨as++[u],by simp,by simp[hal],λi h=>?_,sz.trans g1⟩
    by_cases e:i<as.length
    ·rw[Y8 e];exact g1 _ _ (hat i e)
    ·have:i=as.length:=by simp at h;omega
     subst this
     simp only[List.getElem_concat_length]
     rw[Zb,hal]
   ·rintro l' acc Hz ⟨as,rfl,hal,hat,sz⟩ _ hl'
    have g1:=sz.ZJ (o:=.lst (as.map V.ref)) hl'
    refine k1 l' _ ((s1.trans (s2.trans sz)).free hl') (s1.trans (s2.trans g1)) ⟨as,Zb,by simp[spanL,hal],λi i1 i2=>?_⟩
    have:=((Zf.refl Hz).upd (o:=.lst (as.map V.ref)) hl') _ _ (hat i i1)
    rw[this]
    simp[spanL]
  ·exact absurd g ng
 ·rcases k with⟨ns,h40,hT,k1⟩|⟨ng,k2⟩
  ·exact absurd ⟨h40,ns,hT⟩ g
  ·exact k2 _ s1
theorem ok_many_orders {f:Addr}{fd:FuncData} (F:Fun K "many_orders" "many_orders" s_many_orders f fd) (Zbe:Callee P w K mg base "spans_of" 5 ["tree"] (sp_spans_of K mg)) (T:Txt K mg):FnOk P w K mg base (CXE P w) 6 f fd ["tree"] (sp_many_orders K mg):=by
 refine F.okX sc_many_orders (λvs H Q E h=>?_) (λcdv A outer s H vs Q E hr h=>?_)
 ·obtain⟨t,ns,T,rfl,_⟩:=h;rfl
 obtain⟨t,ns,T',rfl,ht,hT,h40,k1⟩:=h
 refine⟨_,(Zd (Zm (i:=1) sc_many_orders.nd rfl (Or.inl rfl) Ze)
   (Zd (Zm (i:=2) sc_many_orders.nd rfl (Or.inl rfl) Ze)
   (Zd (Z3 (Zae PassesOwn.never rfl (ZoP (K:=K) rfl rfl T.b_enumerate (Za (Zj Zbe (hr.mono (by decide)) rfl Zn (Za (pv 0) Zc)) Zc) (Zeq Ze Zhp)) (ZcH (n:=2) rfl (ZE (Zl (i:=3) sc_many_orders.nd rfl (Or.inl rfl)) (ZE (ZcH (n:=2) rfl (ZE (Zl (i:=4) sc_many_orders.nd rfl (Or.inl rfl)) (ZE (Zl (i:=5) sc_many_orders.nd rfl (Or.inl rfl)) Za2))) Za2))) (Zd (Zdr (i:=1) sc_many_orders.nd rfl (Or.inl rfl) (pv 3) Zom)
   (Zg (Zdr (i:=2) sc_many_orders.nd rfl (Or.inl rfl) (Zq ZaX (Zq Zbd (pv 5) (pv 4)) Ze) Zom)))))
   (Zg (Zs (Zq ZoQ (pv 1) (pv 2))))))),?_⟩
 walk_at "rd"
 have eT:=hT.1
 refine⟨t,T',rfl,ht,by omega,.inl ⟨ns,by omega,hT,λl H1 zl s1 hP=>?_⟩⟩
 obtain⟨as,h1,h2,h3⟩:=hP
 have hl2:(spanL (nth ns) ns.length).length=ns.length:=by simp[spanL]
 refine⟨l,rfl,_,SqL.of h1,?_⟩
 refine ZcR (n:=ns.length) (λi σ Hx=>∃v3 v4 v5:Option V,σ=[some (.ref t),some (.int (ZL i)),some (.int (prodF (szN (nth ns) ns.length) 0 i)),v3,v4,v5]/\Zf H1 Hx) ⟨none,none,none,rfl,Zf.refl _⟩ (λi σ Hx hi ⟨_,_,_,_,sx⟩=>⟨_,_,SqL.of (sx _ _ h1),Yh (by rw[Yi];omega)⟩) (fun σ Hx ⟨_,_,_,_,sx⟩=>⟨_,SqL.of (sx _ _ h1),by rw[Yi];omega⟩) ?_ ?_
 ·rintro i x σ Hx Hx' hi ⟨v3,v4,v5,rfl,sx⟩ ⟨q,x,hq,rfl,rfl,hx⟩
  have ex:=hx _ (SqL.of (sx _ _ h1))
  rw[YE,Yh (by omega)]at ex
  cases ex
  have ha:=sx _ _ (h3 i (by omega) (by omega))
  have es:(spanL (nth ns) ns.length)[i]'(by omega)=[Zax (nth ns) i+1,ZaB (nth ns) ns.length i-1]:=by simp[spanL]
  rw[es]at ha
  generalize as[i]'(by omega)=b at ha
  have g:=(Zf.refl Hx).upd (o:=.tup [.int ((i:Int)+1),.ref b]) hq
  have tq:(upd Hx q (.tup [.int ((i:Int)+1),.ref b])) q=some (.tup [.int ((i:Int)+1),.ref b]):=Zb
  replace sx:=sx.trans g
  replace ha:=g _ _ ha
  generalize upd Hx q (.tup [.int ((i:Int)+1),.ref b])=Hy at sx ha tq⊢
  have c:=ZR hT hi
  have ez:ZaB (nth ns) ns.length i-1-(Zax (nth ns) i+1)+1=((szN (nth ns) ns.length i:Nat):Int):=by unfold szN;omega
  walk_at "rd"
  refine⟨_,SqT.of tq,rfl,_,_,rfl,_,_,rfl,b,rfl,_,SqT.of ha,rfl,_,_,rfl,_,_,rfl,rfl,rfl,_,rfl,mul_r (by omega) (by omega),_,rfl,_,rfl,by rw[ez];exact mul_r (by unfold szN;omega) (by unfold szN;omega),?_,?_,?_⟩
  ·show _=(((i+1)*ZL i:Nat):Int)
   rw[Int.natCast_mul,Int.mul_comm];rfl
  ·rw[ez,show prodF (szN (nth ns) ns.length) 0 (i+1)=prodF (szN (nth ns) ns.length) 0 i*szN (nth ns) ns.length (0+i)from rfl,Nat.zero_add,Int.natCast_mul]
  ·exact sx
 ·rintro σ Hx ⟨v3,v4,v5,rfl,sx⟩
  obtain⟨b1,b2⟩:=ZgE hT h40
  walk_at "rd"
  refine⟨⟨by omega,?_⟩,?_⟩
  ·exact b2
  ·rw[<-Int.natCast_ediv];exact k1 _ (s1.trans sx)
theorem comp_above {a:Addr}{L:List Int}{p:Nat}{H1:Hp}{Q:VK} (ha:H1 a=some (.lst (L.map V.int))) (hn:L.length<=1000)
  (hk:∀l H' (xs:List V),Zf H1 H'->xs.length=(L.filter λo=>decide ((p:Int)<o)).length->H' l=none->Q (.ref l) (upd H' l (.lst xs))) :
  ZeI (Itl K a) (gName 0) (tTest (tOp (rI0 λi j=>V.bl (decide (j<i))) (tVar 0) (tVar 1))) (tVar 0) [none,some (V.int (p:Int))] Q H1:=by
 refine ZiT (n:=L.length) (λi=>decide ((p:Int)<L.getD i 0)) (λi=>V.int (L.getD i 0)) (Ys hn (by decide)) (λi Hx s hi=>⟨_,_,SqL.of (s _ _ ha),Yh (by simpa using hi)⟩) (λHx s=>⟨_,SqL.of (s _ _ ha),by simp⟩) ?_ ?_
 ·rintro i x Hx Hy hi s ⟨rfl,hx⟩
  have ex:=hx _ (SqL.of (s _ _ ha))
  rw[YE,Yh hi]at ex
  cases ex
  have eg:L.getD i 0=L[i]:=by simp[Yg,hi]
  walk_at "rd"
  exact Z2 (λz=>CF.take hi (by rw[eg];exact Y2 z) (by rw[eg]) s) (λz=>CF.skip hi (by rw[eg];exact YR z) s)
 ·intro l H' s hl
  refine hk l H' _ s ?_ hl
  rw[Yi]
  have:L=(List.range L.length).map λi=>L.getD i 0:=by
   refine List.ext_getElem (by simp) λj h1 h2=>?_
   simp[Yg,h1]
  conv=>rhs;rw[this,List.filter_map,Yi]
  rfl
theorem ok_flat_number {f:Addr}{fd:FuncData} (F:Fun K "flat_number" "flat_number" s_flat_number f fd) (Zar:Callee P w K mg base "way_up" 1 ["tree","place"] (sp_way_up K mg)) (T:Txt K mg):FnOk P w K mg base (CXE P w) 2 f fd ["tree","place"] (sp_flat_number K mg):=by
 refine F.okX sc_flat_number (λvs H Q E h=>?_) (λcdv A outer s H vs Q E hr h=>?_)
 ·obtain⟨t,T,p,rfl,_⟩:=h;rfl
 obtain⟨t,T',p,rfl,ht,hn,hp,k1⟩:=h
 refine⟨_,(Zg (Zs (Zk (Zp (K:=K) rfl) rfl T.b_len Yv (Za (ZaR ["elder","place"] [none,some 1] rfl rfl rfl (Zbf (Zj Zar (hr.mono (by decide)) rfl Zn (Za (pv 0) (Za (pv 1) Zc)))) (λ_ _ _ _ _=>(Zl (i:=0) (show(["elder","place"]:List Str).Nodup from by decide +kernel) rfl (Or.inl rfl))) (λ_ _ _ _ _=>Zhs (Zx ZbY (pv 0) (pv 1) (Zz _))) (λ_ _ _ _ _=>(pv 0)) ZQ) Zc)))),?_⟩
 walk_at "rd"
 refine⟨t,T',p,rfl,ht,hn,hp,λw H1 hw s1 h1=>⟨w,rfl,⟨_,SqL.of h1⟩,comp_above h1 (by simp only[wayI,Yi];exact Yf (Zfw _ _ _) hn) λl H2 xs s2 hx hl=>⟨l,rfl,xs,.inl (SqL.of Zb),?_⟩⟩⟩
 have e:(xs.length:Nat)=Zaa T' p:=by
  rw[hx,Zfz,List.filter_map,Yi]
  unfold Zaa
  refine ZcB λo ho=>?_
  rw[Bool.eq_iff_iff]
  simp
 rw[e]
 exact k1 _ ((s1.trans s2).ZJ hl)
theorem ok_flattest {f:Addr}{fd:FuncData} (F:Fun K "flattest" "flattest" s_flattest f fd) (ZT:Callee P w K mg base "need_tree" 4 ["tree"] (sp_need_tree K mg)) (Zcm:Callee P w K mg base "flat_number" 2 ["tree","place"] (sp_flat_number K mg)) (T:Txt K mg):FnOk P w K mg base (CXE P w) 5 f fd ["tree"] (sp_flattest K mg):=by
 refine F.okX sc_flattest (λvs H Q E h=>?_) (λcdv A outer s H vs Q E hr h=>?_)
 ·obtain⟨t,T,rfl,_⟩:=h;rfl
 obtain⟨t,T',rfl,ht,hn,k1,k2⟩:=h
 refine⟨_,(Zd (ZN (Zj ZT (hr.mono (by decide)) rfl Za3 (Za (pv 0) Zc)))
   (Zg (Zs (Zat (ZbK (K:=K) rfl) rfl T.b_tuple ZaQ (Za (ZaR ["place","tree"] [none,some 0] rfl rfl rfl (ZZ rfl T.b_range (Za (Zk (Zp (K:=K) rfl) rfl T.b_len Yv (Za (pv 0) Zc)) Zc)) (λ_ _ _ _ _=>(Zl (i:=0) (show(["place","tree"]:List Str).Nodup from by decide +kernel) rfl (Or.inl rfl))) (λ_ _ _ _ _=>ZaE) (λ_ _ _ _ _=>(Zj Zcm (hr.mono (by decide)) rfl Zn (Za (pv 1) (Za (pv 0) Zc)))) ZQ) Zc))))),?_⟩
 walk_at "rd"
 have eL:(T'.map V.int).length=T'.length:=Yi ..
 refine⟨t,T',rfl,ht,hn,λg H1 s1=>⟨_,.inr (s1.Zbp ht),by omega,by rw[eL];omega,?_⟩,λg H1 s1=>k2 g _ s1⟩
 have en:(((T'.map V.int).length:Nat):Int).toNat=T'.length:=by rw[eL];omega
 rw[en]
 refine comp_map (n:=T'.length) (λq=>V.int (Zaa T' q:Nat)) (Ys hn (by decide)) (λj Hx s hj=>hj) (λHx s=>Yd _) ?_ ?_
 ·rintro j x Hx Hy hj s ⟨rfl,rfl⟩
  walk_at "rd"
  exact⟨t,T',j,by simp,(s1.trans s).Zbp ht,hn,hj,λH9 s9=>CW.next hj rfl (s.trans s9)⟩
 ·intro l' Hx s hl'
  have ed:(List.range T'.length).map (λq=>V.int (Zaa T' q:Nat))=(Zap T').map V.int:=by simp[Zap]
  rw[ed]
  exact⟨l',rfl,_,.inl ⟨SqL.of Zb,λt' ht'=>k1 g t' _ (((s1.trans s).ZJ hl').ZJ ht') Zb⟩⟩
theorem ok_running_sums {f:Addr}{fd:FuncData} (F:Fun K "running_sums" "running_sums" s_running_sums f fd) (T:Txt K mg):FnOk P w K mg base (CXE P w) 1 f fd ["numbers"] (sp_running_sums K mg):=by
 refine F.okX sc_running_sums (λvs H Q E h=>?_) (λcdv A outer s H vs Q E hr h=>?_)
 ·obtain⟨a,ns,rfl,_⟩:=h;rfl
 obtain⟨a,ns,rfl,hS,hl,k1⟩:=h
 refine⟨_,(Zd (Zm (i:=1) sc_running_sums.nd rfl (Or.inl rfl) (ZX Zc))
   (Zd (Zm (i:=2) sc_running_sums.nd rfl (Or.inl rfl) Ze)
   (Zd (Z3 (Zae PassesOwn.never rfl (Zbf (pv 0)) (Zl (i:=3) sc_running_sums.nd rfl (Or.inl rfl)) (Zd (Zdr (i:=2) sc_running_sums.nd rfl (Or.inl rfl) (pv 3) Zjg)
   (Zg (ZN (ZeG PySem.F.plainAttrs_list PySem.F.slot_list_append PySem.F.type_list_append Zau (pv 1) (Za (pv 2) Zc)))))))
   (Zg (Zs (pv 1)))))),?_⟩
 walk_at "rd"
 refine⟨Ym _,λp hp=>⟨⟨_,((Zf.refl H).upd hp).seq hS⟩,ZnW (K:=K) (a:=a) (xs:=ns.map V.int) (λi σ H'=>∃v,σ=[some (.ref a),some (.ref p),some (.int (ns.take i).sum),v]/\Zf H H'/\H' p=some (.lst ((Zv 0 (ns.take i)).map V.int)))
  ⟨none,rfl,(Zf.refl H).upd hp,Zb⟩ (λi σ H' _ ⟨_,_,s,_⟩=>s.seq hS) ?_ ?_⟩⟩
 ·rintro i y σ H' hi ⟨v,rfl,hs,hq⟩
  obtain⟨z,hz,rfl⟩:∃z,ns[i]?=some z/\y=V.int z:=by
   rw[YE]at hi
   cases e:ns[i]? with
   |none=>rw[e]at hi;cases hi
   |some z=>rw[e]at hi;exact⟨z,rfl,(Yy hi).symm⟩
  have hil:i<ns.length:=(Yr.mp hz).1
  have et:ns.take (i+1)=ns.take i++[z]:=by rw[Y9,hz];rfl
  walk_at "rd"
  refine⟨Zam hq,_,hq,?_,?_,hs.upd hp,?_⟩
  ·rw[Yi,ZaU,YX]
   exact Ys (Yf (Nat.min_le_right _ _) hl) (by decide)
  ·rw[et];simp
  ·rw[Zb,et,Zan];simp[Zv]
 ·rintro σ H' ⟨v,rfl,hs,hq⟩
  walk_at "rd"
  rw[Yi,List.take_length]at hq
  exact k1 p H' hs hq
theorem ok_one_more {f:Addr}{fd:FuncData} (F:Fun K "one_more" "one_more" s_one_more f fd) (ZA:Callee P w K mg base "running_sums" 1 ["numbers"] (sp_running_sums K mg)) (T:Txt K mg):FnOk P w K mg base (CXE P w) 2 f fd ["ends"] (sp_one_more K mg):=by
 refine F.okX sc_one_more (λvs H Q E h=>?_) (λcdv A outer s H vs Q E hr h=>?_)
 ·obtain⟨a,ns,rfl,_⟩:=h;rfl
 obtain⟨a,ns,rfl,hS,hl,hne,k1⟩:=h
 refine⟨_,(Zd (Zm (i:=1) sc_one_more.nd rfl (Or.inl rfl) (Zev (K:=K) rfl (Zj ZA (hr.mono (by decide)) rfl Zn (Za (Zev (K:=K) rfl (pv 0) (Zbm ZaC Ze)) Zc)) (Zbm ZaC Ze)))
   (Zg (Zs (Zq Zhr (ZbP ZcK (pv 1) Zer (ZbZ Ze)) (ZbP ZcK (pv 1) Zer (ZbZ (Zbm ZaC Ze))))))),?_⟩
 walk_at "rd"
 refine⟨_,hS,λp hp=>⟨p,ns.reverse,rfl,SqL.of (by rw[Zb,List.map_reverse]),by simpa using hl,λl H1 s1 h1=>⟨l,rfl,_,SqL.of h1,λp1 hp1=>⟨_,SqL.of Zb,λp2 hp2=>⟨_,SqL.of ((Zf.refl _).ZJ hp2 _ _ Zb),λp3 hp3 =>
  ⟨_,(Zf.refl _).ZJ hp3 _ _ Zb,_,Zb,?_,λp4 hp4=>k1 p4 _ ((((((Zf.refl H).upd hp).trans s1).ZJ hp1).ZJ hp2).ZJ hp3 |>.ZJ hp4) ?_⟩⟩⟩⟩⟩⟩
 ·rw[Zmq,Zhx]
  simp only[YX,List.length_reverse,Yi,ZaU]
  exact Yf (show _<=200 by omega) (by decide)
 ·rw[Zb,Zmq,Zhx,<-List.map_reverse,Zqq,Yi,Zhw,<-List.map_take,<-List.map_take,<-YM,ZmX hne]
theorem ok_climbs {f:Addr}{fd:FuncData} (F:Fun K "climbs" "climbs" s_climbs f fd) (ZeZ:Callee P w K mg base "one_more" 2 ["ends"] (sp_one_more K mg)) (T:Txt K mg):FnOk P w K mg base (CXE P w) 3 f fd ["n","most"] (sp_climbs K mg):=by
 refine F.okX sc_climbs (λvs H Q E h=>?_) (λcdv A outer s H vs Q E hr h=>?_)
 ·obtain⟨n,most,rfl,_⟩:=h;rfl
 obtain⟨n,most,rfl,h1,h2,k1⟩:=h
 refine⟨_,(Zd (Zm (i:=2) sc_climbs.nd rfl (Or.inl rfl) (Zq Zhr (ZX (Za Ze Zc)) (Zq ZcL (ZX (Za Ze Zc)) (pv 1))))
   (Zd (Z3 (Zae PassesOwn.never rfl (ZZ rfl T.b_range (Za (Zq Zbd (pv 0) Ze) Zc)) (Zl (i:=3) sc_climbs.nd rfl (Or.inl rfl)) (Zg (Zm (i:=2) sc_climbs.nd rfl (Or.inl rfl) (Zj ZeZ (hr.mono (by decide)) rfl Zn (Za (pv 2) Zc))))))
   (Zg (Zs (pv 2))))),?_⟩
 walk_at "rd"
 refine⟨by decide,λp hp=>⟨by decide,λp1 hp1=>⟨_,Zb,by omega,by omega,?_,λp2 hp2=>⟨_,(((Zf.refl _).ZJ hp1).ZJ hp2) _ _ Zb,_,Zb,?_,λp3 hp3=>⟨by omega,by omega,Zas (λi σ H'=>∃l v,σ=[some (.int n),some (.int most),some (.ref l),v]/\Zf H H'/\H' l=some (.lst ((ZeJ most i).map V.int)))
  ⟨p3,none,rfl,((((Zf.refl H).upd hp).ZJ hp1).ZJ hp2).ZJ hp3,?_⟩ ?_ ?_⟩⟩⟩⟩⟩
 ·exact Yf (show _<=40 by simp;omega) (by decide)
 ·exact Yf (show _<=41 by simp;omega) (by decide)
 ·rw[Zb]
  simp[ZeJ]
 ·rintro i σ H' hi ⟨l,v,rfl,hs,hq⟩
  walk_at "rd"
  refine⟨l,ZeJ most i,rfl,SqL.of hq,by rw[Zfr];omega,λz=>?_,λl2 H2 s2 h2=>⟨l2,rfl,hs.trans s2,h2⟩⟩
  have:=Zfr most i
  rw[z]at this;cases this
 ·rintro σ H' ⟨l,v,rfl,hs,hq⟩
  walk_at "rd"
  have e:((n:Int)-1).toNat=n-1:=by omega
  rw[e]at hq
  exact k1 l H' hs hq
theorem ok_many_flat {f:Addr}{fd:FuncData} (F:Fun K "many_flat" "many_flat" s_many_flat f fd) (ZaN:Callee P w K mg base "need_count" 1 ["n"] (sp_need_count K mg)) (ZhT:Callee P w K mg base "climbs" 3 ["n","most"] (sp_climbs K mg)) (T:Txt K mg):FnOk P w K mg base (CXE P w) 4 f fd ["n","most"] (sp_many_flat K mg):=by
 refine F.okX sc_many_flat (λvs H Q E h=>?_) (λcdv A outer s H vs Q E hr h=>?_)
 ·obtain⟨n,most,rfl,_⟩:=h;rfl
 obtain⟨n,most,rfl,k1,k2⟩:=h
 refine⟨_,(Zd (ZN (Zj ZaN (hr.mono (by decide)) rfl Za3 (Za (pv 0) Zc)))
   (Zd (Z9 (Zx Zgr (pv 0) Ze (Zz _)) (Zg (Zs Ze)) ZC)
   (Zg (Zs (Zfn (Zx Zmb (pv 1) Ze (Zz _)) (Zk (Zfq rfl) rfl T.b_sum Zjp (Za (Zj ZhT (hr.mono (by decide)) rfl Zn (Za (pv 0) (Za (Zk (Zf0 rfl) rfl T.b_min Zhu (Za (pv 1) (Za (Zq Zbd (pv 0) Ze) Zc))) Zc))) Zc)) Ze))))),?_⟩
 walk_at "rd"
 refine⟨n,rfl,λhn=>?_,k2⟩
 have k3:=k1 hn
 unfold flatV at k3
 walk_at "rd"
 by_cases h0:n=0
 ·rw[Yc h0]at k3⊢
  exact k3 H (Zf.refl H)
 ·rw[Yb h0]at k3⊢
  by_cases h1:0<=most
  ·rw[Yc h1]at k3⊢
   have e:(if n-1<most then n-1 else most)=(((min most (n-1)).toNat:Nat):Int):=by
    split<;>omega
   obtain⟨m,rfl⟩:=Y6 hn.1
   refine⟨m,_,by rw[e],by omega,by omega,λl H' hs hq=>⟨l,rfl,_,SqL.of hq,k3 H' hs⟩⟩
  ·rw[Yb h1]at k3⊢
   exact k3 H (Zf.refl H)
theorem ok_many_trees {f:Addr}{fd:FuncData} (F:Fun K "many_trees" "many_trees" s_many_trees f fd) (ZdF:Callee P w K mg base "many_flat" 4 ["n","most"] (sp_many_flat K mg)) (T:Txt K mg):FnOk P w K mg base (CXE P w) 5 f fd ["n"] (sp_many_trees K mg):=by
 refine F.okX sc_many_trees (λvs H Q E h=>?_) (λcdv A outer s H vs Q E hr h=>?_)
 ·obtain⟨n,rfl,_⟩:=h;rfl
 obtain⟨n,rfl,k1,k2⟩:=h
 refine⟨_,(Zg (Zs (Zj ZdF (hr.mono (by decide)) rfl Za3 (Za (pv 0) (Za (pv 0) Zc))))),?_⟩
 walk_at "rd"
 exact⟨n,n,rfl,k1,k2⟩
theorem ok_goings_on {f:Addr}{fd:FuncData} (F:Fun K "goings_on" "goings_on" s_goings_on f fd) (ZA:Callee P w K mg base "running_sums" 1 ["numbers"] (sp_running_sums K mg)) (T:Txt K mg):FnOk P w K mg base (CXE P w) 2 f fd ["n"] (sp_goings_on K mg):=by
 refine F.okX sc_goings_on (λvs H Q E h=>?_) (λcdv A outer s H vs Q E hr h=>?_)
 ·obtain⟨n,rfl,_⟩:=h;rfl
 obtain⟨n,rfl,hn,k1⟩:=h
 refine⟨_,(Zd (Zm (i:=1) sc_goings_on.nd rfl (Or.inl rfl) (ZX (Za (Zq ZcL (ZX (Za Ze Zc)) (Zq ZaX (pv 0) Ze)) Zc)))
   (Zd (Z3 (Zae PassesOwn.never rfl (ZZ rfl T.b_range (Za (pv 0) Zc)) (Zl (i:=2) sc_goings_on.nd rfl (Or.inl rfl)) (Zg (ZN (ZeG PySem.F.plainAttrs_list PySem.F.slot_list_append PySem.F.type_list_append Zau (pv 1) (Za (Zj ZA (hr.mono (by decide)) rfl Zn (Za (ZbP ZcK (ZM Zu (pv 1) (Zbm ZaC Ze) (λ_ _=>rfl)) (ZbZ Ze) Zer) Zc)) Zc))))))
   (Zg (Zs (pv 1))))),?_⟩
 walk_at "rd"
 refine⟨by decide,λp hp=>⟨_,Zb,by omega,by omega,?_,λp1 hp1=>⟨by decide,λtb htb=>⟨by omega,by omega,?_⟩⟩⟩⟩
 ·exact Yf (show _<=1000 by simp;omega) (by decide)
 have e1:(List.replicate ((n:Int)+1).toNat [V.int 1]).flatten=(ZS 0 (n+1)).map V.int:=by
  rw[show((n:Int)+1).toNat=n+1 by omega,List.flatten_replicate_singleton]
  refine(List.eq_replicate_iff.mpr ⟨by simp[ZS],λb hb=>?_⟩).symm
  simp[ZS,goN]at hb
  exact hb.2.symm
 rw[e1]at htb⊢
 have g0:=((Zf.refl H).upd (o:=.lst [V.int 1]) hp).ZJ (o:=.lst ((ZS 0 (n+1)).map V.int)) hp1
 have g1:=(Zf.refl _).upd (o:=.lst [V.ref p1]) htb
 have ztb:H tb=none:=g0.free htb
 have np:tb≠p1:=λz=>by rw[z,Zb]at htb;cases htb
 have R0:Rows (upd (upd (upd H p (.lst [V.int 1])) p1 (.lst ((ZS 0 (n+1)).map V.int))) tb (.lst [V.ref p1])) tb [ZS 0 (n+1)]:=⟨[p1],Zb,by simpa using np,rfl,λi h1 h2=>by
  have:i=0:=by simp at h1;omega
  subst this
  exact g1 _ _ Zb⟩
 rw[YZ]
 refine Zas (λi σ Hx=>∃v2,σ=[some (.int (n:Int)),some (.ref tb),v2]/\Rows Hx tb ((List.range (i+1)).map λr=>ZS r (n+1-r))/\Zf H Hx) ⟨none,rfl,R0,g0.trans g1⟩ ?_ ?_
 ·rintro i σ Hx hi ⟨v2,rfl,hR,sx⟩
  walk_at "rd"
  obtain⟨as,a1,a2,a3,a4⟩:=id hR
  have la:as.length=i+1:=by simpa using a3
  have hlast:=a4 i (by omega) (by simp)
  have eg:((List.range (i+1)).map λr=>ZS r (n+1-r))[i]'(by simp)=ZS i (n-i+1):=by
   rw[List.getElem_map,List.getElem_range];congr 1;omega
  rw[eg]at hlast
  have hat:atI (as.map V.ref) (-1)=some (V.ref (as[i]'(by omega))):=by
   refine Zos (by rw[Yi];omega) ?_
   have e:as.length-1=i:=by omega
   rw[Yi,YE,e,Yh (by omega)];rfl
  refine⟨Zam a1,_,SqL.of a1,_,hat,_,rfl,_,SqL.of hlast,λu hu=>?_⟩
  have ec:ZbW ((ZS i (n-i+1)).map V.int) (some 1) none=((ZS i (n-i+1)).drop 1).map V.int:=by
   have:=Zm3 ((ZS i (n-i+1)).map V.int) 1
   rw[show((1:Nat):Int)=1 from rfl]at this
   rw[this,List.map_drop]
  rw[ec]
  have gu:=(Zf.refl Hx).upd (o:=.lst (((ZS i (n-i+1)).drop 1).map V.int)) hu
  refine⟨u,_,rfl,SqL.of Zb,by rw[Ja,Zey];omega,λq H2 s2 hq=>?_⟩
  rw[ZlA]at hq
  have g2:=gu.trans s2
  refine⟨_,g2 _ _ a1,Ys (show _<=1000 by rw[Yi];omega) (by decide),?_,(sx.trans g2).upd ztb⟩
  rw[YJ,YM]
  have nq:q≠tb:=λz=>by
   rw[z,g2 _ _ a1]at hq
   have:=congrArg (λo=>match o with|some (HO.lst (V.int _::_))=>true|_=>false) hq
   match as,la,this with
   |a::as,_,this =>
    rw[show n-i=(n-i-1)+1 by omega,ZS,List.range_succ_eq_map]at this
    simp at this
  have ep:(List.map (λr=>ZS r (n+1-r)) [i+1])=[ZS (i+1) (n-i)]:=by simp
  rw[ep]
  exact Rows.push (g2 _ _ a1) a2 a3 (λj j1 j2=>g2 _ _ (a4 j j1 j2)) hq nq
 ·rintro σ Hx ⟨v2,rfl,hR,sx⟩
  walk_at "rd"
  exact k1 tb Hx sx hR
theorem ok_drop_ways {f:Addr}{fd:FuncData} (F:Fun K "drop_ways" "drop_ways" s_drop_ways f fd) (T:Txt K mg):FnOk P w K mg base (CXE P w) 1 f fd ["goings","still"] (sp_drop_ways K mg):=by
 refine F.okX sc_drop_ways (λvs H Q E h=>?_) (λcdv A outer s H vs Q E hr h=>?_)
 ·obtain⟨g,r,m,st,rfl,_⟩:=h;rfl
 obtain⟨g,r,m,st,rfl,hg,hst,hm,k1⟩:=h
 refine⟨_,(Zg (Zs (Zev (K:=K) rfl (ZbP ZcK (pv 0) (ZbZ Ze) (ZbZ (Zq ZaX (pv 1) Ze))) (Zbm ZaC Ze)))),?_⟩
 walk_at "rd"
 refine⟨_,SqL.of hg,λp hp=>⟨_,SqL.of Zb,λq hq=>k1 q _ (((Zf.refl H).upd hp).ZJ hq) ?_⟩⟩
 rw[Zb]
 have ec:ZbW ((ZS r m).map V.int) (some 1) (some ((st:Int)+2))=(Zg4 (ZS r m) 1 (st+1)).map V.int:=by
  have:=ZoA (ZS r m) (a:=1) (c:=st+2) (by omega) (by rw[Zey];omega)
  rw[show((1:Nat):Int)=1 from rfl,show((st+2:Nat):Int)=(st:Int)+2 by omega]at this
  rw[this];rfl
 rw[ec,<-List.map_reverse]
 congr 3
 have lc:(Zg4 (ZS r m) 1 (st+1)).length=st+1:=Zot (by rw[Zey];omega)
 refine List.ext_getElem (by simp[lc]) λj j1 j2=>?_
 have hj:j<st+1:=by simpa using j2
 rw[List.getElem_reverse]
 have:(Zg4 (ZS r m) 1 (st+1))[(Zg4 (ZS r m) 1 (st+1)).length-1-j]'(by omega)=nth (Zg4 (ZS r m) 1 (st+1)) (st-j):=by
  simp[nth,Yg,lc,show st-j<st+1 by omega,show st-j<(Zg4 (ZS r m) 1 (st+1)).length by omega]
 rw[this,Zou (by omega),ZiZ (by omega)]
 simp
 congr 1;omega
theorem ok__law_drops {f:Addr}{fd:FuncData} (F:Fun K "_law_drops" "_law_drops" s__law_drops f fd) (Zw:Callee P w K mg base "_law_pick" 1 ["pool","many"] (sp__law_pick K mg)) (T:Txt K mg):FnOk P w K mg base (CXE P w) 2 f fd ["pool","many"] (sp__law_drops K mg):=by
 refine F.okX sc__law_drops (λvs H Q E h=>?_) (λcdv A outer s H vs Q E hr h=>?_)
 ·obtain⟨p,n,rfl,_⟩:=h;rfl
 obtain⟨p,n,rfl,hn,hP,k1⟩:=h
 refine⟨_,(Zd (Zm (i:=2) sc__law_drops.nd rfl (Or.inl rfl) (Zj Zw (hr.mono (by decide)) rfl Zn (Za (pv 0) (Za Ze Zc))))
   (Zd (Zm (i:=3) sc__law_drops.nd rfl (Or.inl rfl) (ZX Zc))
   (Zd (Zm (i:=4) sc__law_drops.nd rfl (Or.inl rfl) Ze)
   (Zd (Z3 (Zae PassesOwn.never rfl (ZZ rfl T.b_range (Za (pv 1) Zc)) (Zl (i:=5) sc__law_drops.nd rfl (Or.inl rfl)) (Zd (Zm (i:=6) sc__law_drops.nd rfl (Or.inl rfl) (Zj Zw (hr.mono (by decide)) rfl Zn (Za (pv 0) (Za (Zq ZaX (pv 4) Ze) Zc))))
   (Zd (Z9 (PW.pt (Zjf (Zx Zgr (pv 2) Ze (Zz _)) (Zha (Zx ZbY (Zj Zw (hr.mono (by decide)) rfl Zn (Za (pv 0) (Za Ze Zc))) Ze (Zz _))))) (Zg (Zm (i:=6) sc__law_drops.nd rfl (Or.inl rfl) Ze)) ZC)
   (Zd (Z9 (PW.pt (Zjf (Zx Zgr (pv 2) Ze (Zz _)) (Zha (Zx ZbY (Zj Zw (hr.mono (by decide)) rfl Zn (Za (pv 0) (Za Ze Zc))) Ze (Zz _))))) (Zg (Zm (i:=6) sc__law_drops.nd rfl (Or.inl rfl) (pv 4))) ZC)
   (Zd (Z9 (Zx Zgr (pv 2) Ze (Zz _)) (Zg (Zm (i:=6) sc__law_drops.nd rfl (Or.inl rfl) (Zk (Znd rfl) rfl T.b_min Zhu (Za (pv 4) (Za (pv 6) (Za (Zq ZaX Ze (Zj Zw (hr.mono (by decide)) rfl Zn (Za (pv 0) (Za Ze Zc)))) Zc)))))) ZC)
   (Zd (ZN (ZeG PySem.F.plainAttrs_list PySem.F.slot_list_append PySem.F.type_list_append Zau (pv 3) (Za (pv 6) Zc)))
   (Zg (Zm (i:=4) sc__law_drops.nd rfl (Or.inl rfl) (Zq ZaX (Zq Zbd (pv 4) (pv 6)) Ze))))))))))
   (Zg (Zs (Zat (ZbK (K:=K) rfl) rfl T.b_tuple ZaQ (Za (pv 3) Zc)))))))),?_⟩
 refine Zah (fun σ Hx=>∃way:Int,σ=[some (.ref p),some (.int (n:Int)),some (.int way),none,none,none,none]/\ZF Hx p/\Exc p H Hx) (λR hR=>?_) ?_
 ·walk_at "rd"
  exact⟨p,_,rfl,by decide,by decide,hP,λd H1 d0 d1 P1 e1=>hR _ _ ⟨d,rfl,P1,e1⟩⟩
 rintro σ H1 ⟨way,rfl,P1,e1⟩
 walk_at "rd"
 refine⟨Ym _,λl hl=>⟨by omega,by omega,?_⟩⟩
 have nlp:l≠p:=P1.ne hl
 have zl:H l=none:=e1.free nlp hl
 rw[YZ]
 refine Zas (λi σ Hx=>∃(ds:List Nat) (v5 v6:Option V),σ=[some (.ref p),some (.int (n:Int)),some (.int way),some (.ref l),some (.int (ZD ds i:Nat)),v5,v6]/\ds.length=i/\Zbz ds/\Hx l=some (.lst (Zr ds))/\ZF Hx p/\Exc p H Hx) ⟨[],none,none,rfl,rfl,(λk hk=>absurd hk (by simp)),Zb,P1.upd hl,e1.same ((Zf.refl H1).upd hl)⟩ ?_ ?_
 ·rintro i σ Hx hi ⟨ds,v5,v6,rfl,hd,hD,hxl,Px,ex⟩
  have hop:=ZhH ds i
  refine Zah (fun σ Hx=>∃d:Nat,d<=ZD ds i/\σ=[some (.ref p),some (.int (n:Int)),some (.int way),some (.ref l),some (.int (ZD ds i:Nat)),some (.int (0+(i:Int))),some (.int (d:Nat))]/\Hx l=some (.lst (Zr ds))/\ZF Hx p/\Exc p H Hx) (λR hR=>?_) ?_
  ·walk_at "rd"
   exact⟨p,_,rfl,by omega,by omega,Px,λd H2 d0 d1 P2 e2=>hR _ _ ⟨d.toNat,by omega,by rw[Int.toNat_of_nonneg d0],e2 _ _ nlp hxl,P2,ex.trans e2⟩⟩
  clear hxl Px ex Hx
  rintro σ Hx ⟨d,hd1,rfl,hxl,Px,ex⟩
  refine Zah (fun σ Hx=>∃d:Nat,d<=ZD ds i/\σ=[some (.ref p),some (.int (n:Int)),some (.int way),some (.ref l),some (.int (ZD ds i:Nat)),some (.int (0+(i:Int))),some (.int (d:Nat))]/\Hx l=some (.lst (Zr ds))/\ZF Hx p/\Exc p H Hx) (λR hR=>?_) ?_
  ·walk_at "rd"
   refine Z2 (λ_=>⟨p,_,rfl,by decide,by decide,Px,λu H2 u0 u1 P2 e2=>⟨u,rfl,Z2 (λ_=>hR _ _ ⟨0,by omega,rfl,e2 _ _ nlp hxl,P2,ex.trans e2⟩) λ_=>hR _ _ ⟨d,hd1,rfl,e2 _ _ nlp hxl,P2,ex.trans e2⟩⟩⟩) λ_=>hR _ _ ⟨d,hd1,rfl,hxl,Px,ex⟩
  clear hxl Px ex Hx hd1 d
  rintro σ Hx ⟨d,hd1,rfl,hxl,Px,ex⟩
  refine Zah (fun σ Hx=>∃d:Nat,d<=ZD ds i/\σ=[some (.ref p),some (.int (n:Int)),some (.int way),some (.ref l),some (.int (ZD ds i:Nat)),some (.int (0+(i:Int))),some (.int (d:Nat))]/\Hx l=some (.lst (Zr ds))/\ZF Hx p/\Exc p H Hx) (λR hR=>?_) ?_
  ·walk_at "rd"
   refine Z2 (λ_=>⟨p,_,rfl,by decide,by decide,Px,λu H2 u0 u1 P2 e2=>⟨u,rfl,Z2 (λ_=>hR _ _ ⟨ZD ds i,by omega,rfl,e2 _ _ nlp hxl,P2,ex.trans e2⟩) λ_=>hR _ _ ⟨d,hd1,rfl,e2 _ _ nlp hxl,P2,ex.trans e2⟩⟩⟩) λ_=>hR _ _ ⟨d,hd1,rfl,hxl,Px,ex⟩
  clear hxl Px ex Hx hd1 d
  rintro σ Hx ⟨d,hd1,rfl,hxl,Px,ex⟩
  refine Zah (fun σ Hx=>∃d:Nat,d<=ZD ds i/\σ=[some (.ref p),some (.int (n:Int)),some (.int way),some (.ref l),some (.int (ZD ds i:Nat)),some (.int (0+(i:Int))),some (.int (d:Nat))]/\Hx l=some (.lst (Zr ds))/\ZF Hx p/\Exc p H Hx) (λR hR=>?_) ?_
  ·walk_at "rd"
   refine Z2 (λ_=>⟨p,_,rfl,by decide,by decide,Px,λu H2 u0 u1 P2 e2=>⟨u,rfl,hR _ _ ⟨(min (min ((ZD ds i:Nat):Int) (d:Int)) (1+u)).toNat,by omega,?_,e2 _ _ nlp hxl,P2,ex.trans e2⟩⟩⟩) λ_=>hR _ _ ⟨d,hd1,rfl,hxl,Px,ex⟩
   rw[Int.toNat_of_nonneg (by omega)]
  clear hxl Px ex Hx hd1 d
  rintro σ Hx ⟨d,hd1,rfl,hxl,Px,ex⟩
  walk_at "rd"
  have eo:ZD (ds++[d]) (i+1)=ZD ds i-d+1:=by
   show ZD (ds++[d]) i-(ds++[d]).getD i 0+1=_
   rw[ZbN ds d i (by omega),<-hd];simp[Yg]
  refine⟨Zam hxl,_,hxl,Ys (show _<=1000 by rw[ZV];omega) (by decide),ds++[d],by rw[eo];omega,by simp[hd],hD.snoc (by rw[hd];exact hd1),by rw[Zb,ZbL];rfl,Px.updN nlp,ex.updN zl⟩
 ·rintro σ Hx ⟨ds,v5,v6,rfl,hd,hD,hxl,Px,ex⟩
  walk_at "rd"
  exact⟨_,.inl ⟨SqL.of hxl,λt ht=>k1 t ds _ (ex.free (Px.ne ht) ht) hd hD Zb (Px.upd ht) (ex.same ((Zf.refl Hx).upd ht))⟩⟩
theorem ok__law_hung {f:Addr}{fd:FuncData} (F:Fun K "_law_hung" "_law_hung" s__law_hung f fd) (T:Txt K mg):FnOk P w K mg base (CXE P w) 1 f fd ["drops"] (sp__law_hung K mg):=by
 refine F.okX sc__law_hung (λvs H Q E h=>?_) (λcdv A outer s H vs Q E hr h=>?_)
 ·obtain⟨t,ds,rfl,_⟩:=h;rfl
 obtain⟨t,ds,rfl,ht,hn,hD,k1⟩:=h
 refine⟨_,(Zd (Zm (i:=1) sc__law_hung.nd rfl (Or.inl rfl) (Zq ZcL (ZX (Za (Zbm ZaC Ze) Zc)) (Zk (Zp (K:=K) rfl) rfl T.b_len Yv (Za (pv 0) Zc))))
   (Zd (Zm (i:=2) sc__law_hung.nd rfl (Or.inl rfl) (ZX Zc))
   (Zd (Z3 (Zae PassesOwn.never rfl (ZhE (K:=K) rfl rfl T.b_enumerate (Za (pv 0) Zc)) (ZcH (n:=2) rfl (ZE (Zl (i:=3) sc__law_hung.nd rfl (Or.inl rfl)) (ZE (Zl (i:=4) sc__law_hung.nd rfl (Or.inl rfl)) Za2))) (Zd (Z3 (Zae PassesOwn.never rfl (ZZ rfl T.b_range (Za (pv 4) Zc)) (Zl (i:=5) sc__law_hung.nd rfl (Or.inl rfl)) (Zd (Zcj (ZM Zu (ZX (Za (ZM Zu (pv 1) (ZM Zu (pv 2) (Zbm ZaC Ze) (λ_ _=>rfl)) (λ_ _=>rfl)) (Za (pv 3) Zc))) (Zat ZiO rfl T.b_int Zoa (Za (ZcJ Zgr (pv 5) (Zq Zbd (pv 4) Ze) (Zz _)) Zc)) (λ_ _=>rfl)) (ZeR (pv 1) (ZM Zu (pv 2) (Zbm ZaC Ze) (λ_ _=>rfl)) set_list (λ_=>rfl)))
   (Zg (ZN (pe_bm0 PySem.F.plainAttrs_list PySem.F.slot_list_pop PySem.F.type_list_pop mt_pop (pv 2)))))))
   (Zd (Z9 (Zx (Zok (K:=K) rfl hr) (pv 2) (ZX Zc) (Zz _)) (Zg (Zcj (ZM Zu (pv 2) (Zbm ZaC Ze) (λ_ _=>rfl)) (ZeR (pv 1) (pv 3) set_list (λ_=>rfl)))) ZC)
   (Zg (ZN (ZeG PySem.F.plainAttrs_list PySem.F.slot_list_append PySem.F.type_list_append Zau (pv 2) (Za (pv 3) Zc))))))))
   (Zg (Zs (Zat (ZbK (K:=K) rfl) rfl T.b_tuple ZaQ (Za (pv 1) Zc))))))),?_⟩
 walk_at "rd"
 have eL:(Zr ds).length=ds.length:=ZV ds
 refine⟨by decide,λp hp=>⟨_,.inr (SqT.of (((Zf.refl H).upd hp) _ _ ht)),_,Zb,by omega,by rw[eL];omega,?_,λel hel=>⟨Ym _,λsp hsp=>?_⟩⟩⟩
 ·exact Yf (show _<=1000 by simp;omega) (by decide)
 have en:(((Zr ds).length:Nat):Int).toNat=ds.length:=by rw[eL];omega
 have s0:Zf H (upd (upd (upd H p (.lst [V.int (-1)])) el (.lst (List.replicate (((Zr ds).length:Nat):Int).toNat [V.int (-1)]).flatten)) sp (.lst [])):=(((Zf.refl H).upd hp).ZJ hel).ZJ hsp
 refine⟨_,SqT.of (s0 _ _ ht),?_⟩
 have hel0:(upd (upd (upd H p (.lst [V.int (-1)])) el (.lst (List.replicate (((Zr ds).length:Nat):Int).toNat [V.int (-1)]).flatten)) sp (.lst [])) el=some (.lst ((List.replicate ds.length (-1:Int)).map V.int)):=by
  have:=((Zf.refl _).ZJ (o:=.lst []) hsp) el _ Zb
  rw[this,en];simp
 have hsp0:(upd (upd (upd H p (.lst [V.int (-1)])) el (.lst (List.replicate (((Zr ds).length:Nat):Int).toNat [V.int (-1)]).flatten)) sp (.lst [])) sp=some (.lst (Zr [])):=Zb
 have nes:el≠sp:=λz=>by
  subst z
  rw[Zb]at hsp;cases hsp
 have zel:H el=none:=((Zf.refl H).upd hp).free hel
 have zsp:H sp=none:=(((Zf.refl H).upd hp).ZJ hel).free hsp
 rw[en]at hel0 hsp0 s0⊢
 generalize (upd (upd (upd H p (.lst [V.int (-1)])) el (.lst (List.replicate ds.length [V.int (-1)]).flatten)) sp (.lst []))=H0 at s0 hel0 hsp0⊢
 refine ZcR (n:=ds.length) (λi σ Hx=>∃(es:List Int) (S:List Nat) (v3 v4 v5:Option V),σ=[some (.ref t),some (.ref el),some (.ref sp),v3,v4,v5]/\Hx el=some (.lst (es.map V.int))/\Hx sp=some (.lst (Zr S))/\es.length=ds.length/\ZhG ds.length i S es/\S.length=ZD ds i/\(∀p,i<=p->p<ds.length->es.getD p 0=-1)/\Zf H Hx)
  ⟨List.replicate ds.length (-1),[],none,none,none,rfl,hel0,hsp0,by simp,Znc _ _,rfl,λp _ hp=>by simp[Yg,hp],s0⟩ (λi σ Hx hi ⟨_,_,_,_,_,_,_,_,_,_,_,_,sx⟩=>⟨_,_,SqT.of (sx _ _ ht),Yh (by rw[eL];exact hi)⟩) (fun σ Hx ⟨_,_,_,_,_,_,_,_,_,_,_,_,sx⟩=>⟨_,SqT.of (sx _ _ ht),eL⟩) ?_ ?_
 ·rintro i x σ Hx Hx' hi ⟨es,S,v3,v4,v5,rfl,hxe,hxs,hel',hH,hSl,hE,sx⟩ ⟨q,x,hq,rfl,rfl,hx⟩
  have ex:=hx _ (SqT.of (sx _ _ ht))
  have ed:(Zr ds)[i]?=some (V.int (ds.getD i 0:Nat)):=by simp[Zr,Yg,hi]
  rw[ed]at ex
  cases ex
  have hdi:=hD i hi
  have hSi:=hH.len
  have hSlt:=hH.lt
  rw[<-hSl]at hdi
  generalize hdd:ds.getD i 0=d at hdi ed hx hq⊢
  have g:=(Zf.refl Hx).upd (o:=.tup [.int (i:Int),.int (d:Nat)]) hq
  have tq:(upd Hx q (.tup [.int (i:Int),.int (d:Nat)])) q=some (.tup [.int (i:Int),.int (d:Nat)]):=Zb
  replace sx:=sx.trans g
  replace hxe:=g _ _ hxe
  replace hxs:=g _ _ hxs
  generalize upd Hx q (.tup [.int (i:Int),.int (d:Nat)])=Hy at sx hxe hxs tq⊢
  clear g hx hq Hx
  refine⟨q,_,rfl,SqT.of tq,rfl,_,_,rfl,_,_,rfl,rfl,?_⟩
  clear tq
  obtain⟨A',B,hAB,hBl⟩:=ZeX S hdi
  refine Zah (fun σ Hx=>∃(v5:Option V),σ=[some (.ref t),some (.ref el),some (.ref sp),some (.int (i:Int)),some (.int (d:Nat)),v5]/\Hx el=some (.lst ((match B.head? with|some b=>es.set b i|none=>es).map V.int))/\Hx sp=some (.lst (Zr A'))/\Zf H Hx) (λR hR=>?_) ?_
  ·walk_at "rd"
   refine⟨by omega,by omega,?_⟩
   rw[YZ]
   refine Zas (λj σ Hz=>∃(v5:Option V),σ=[some (.ref t),some (.ref el),some (.ref sp),some (.int (i:Int)),some (.int (d:Nat)),v5]/\Hz el=some (.lst ((if j=d then (match B.head? with|some b=>es.set b i|none=>es)else es).map V.int))/\Hz sp=some (.lst (Zr (A'++B.take (d-j))))/\Zf H Hz) ⟨_,rfl,?_,?_,sx⟩ ?_ ?_
   ·rw[hxe]
    congr 2
    split
    ·rename_i z
     have:B=[]:=List.length_eq_zero_iff.mp (by omega)
     rw[this];rfl
    ·rfl
   ·rw[hxs,hAB,Nat.sub_zero,<-hBl,List.take_length]
   ·clear hxe hxs sx v5 Hy
    rintro j σ Hy hj ⟨v5,rfl,hye,hys,sy⟩
    rw[Yb (by omega)]at hye
    have hlt:d-j-1<B.length:=by omega
    have etk:B.take (d-j)=B.take (d-j-1)++[B[d-j-1]]:=by
     have:=List.take_succ (l:=B) (i:=d-j-1)
     rw[show d-j-1+1=d-j by omega,Yh hlt]at this
     exact this
    have hyi:B[d-j-1]<i:=hSlt _ (by rw[hAB];exact Yq _ (YF hlt))
    have hhd:j=d-1->B.head?=some B[d-j-1]:=λz=>by
     rw[List.head?_eq_getElem?,Yh (show 0<B.length by omega)]
     congr 2;omega
    rw[etk,<-YT]at hys
    generalize B[d-j-1]=y at hys hyi hhd
    have hat:atI (Zr (A'++B.take (d-j-1)++[y])) (-1)=some (V.int (y:Nat)):=ZhI _ _
    walk_at "rd"
    refine⟨_,SqL.of hys,_,hat,_,_,rfl,SqL.of hye,_,Zdw (show y<es.length by omega),by decide,λu hu=>?_⟩
    have g:=(Zf.refl Hy).upd (o:=.lst [V.int (nth es y),V.int (i:Int)]) hu
    refine⟨_,SqL.of Zb,V.int (if j=d-1 then (i:Int)else nth es y),?_,_,SqL.of (g _ _ hys),_,hat,_,_,rfl,g _ _ hye,y,by rw[Yi];exact Zhd (by omega),?_⟩
    ·by_cases z:j=d-1
     ·rw[Yc z,Yc (by omega)];rfl
     ·rw[Yb z,Yb (by omega)];rfl
    rw[<-List.map_set]
    have hys2:(upd (upd Hy u (.lst [V.int (nth es y),V.int (i:Int)])) el (.lst ((es.set y (if j=d-1 then (i:Int)else nth es y)).map V.int))) sp=some (.lst (Zr (A'++B.take (d-j-1)++[y]))):=by rw[Zh nes.symm];exact g _ _ hys
    refine⟨Zam hys2,_,hys2,V.int (y:Nat),by simp[Zr],?_,?_,((sy.trans g).upd zel).upd zsp⟩
    ·rw[Zh nes,Zb]
     congr 3
     by_cases z:j=d-1
     ·rw[Yc z,Yc (by omega),hhd z]
     ·rw[Yb z,Yb (by omega),Zjy]
    ·rw[Zb,show d-(j+1)=d-j-1 by omega]
     simp[Zr]
   ·rintro σ Hz ⟨v5,rfl,hze,hzs,sz⟩
    rw[Yc rfl]at hze
    rw[Nat.sub_self,List.take_zero,List.append_nil]at hzs
    exact hR _ _ ⟨v5,rfl,hze,hzs,sz⟩
  clear hxe hxs sx Hy
  rintro σ Hy ⟨v5,rfl,hye,hys,sy⟩
  walk_at "rd"
  have hbi:∀b,B.head?=some b->b≠i:=λb hb=>by
   have:=hSlt b (by rw[hAB];exact Yq _ (List.mem_of_head? hb));omega
  rw[hAB]at hH
  have hst:=hH.step hi hel' (hE i (Yd _) hi)
  have hAl:A'.length+d=S.length:=by rw[hAB,YD];omega
  have hno:(A'++[i]).length=ZD ds (i+1):=by
   show _=ZD ds i-ds.getD i 0+1
   rw[hdd,<-hSl];simp;omega
  have hEn:∀p,i+1<=p->p<ds.length->(Zbq es A' B i).getD p 0=-1:=λp p1 p2=>by
   rw[Zex _ _ _ _ _ (by omega) hbi,Yb (by omega),Yb (λz=>?_)]
   ·exact hE p (by omega) p2
   ·have:=hSlt p (by rw[hAB];exact Yq _ (List.mem_of_head? z));omega
  have esn:Zr A'++[V.int (i:Nat)]=Zr (A'++[i]):=by rw[ZbL];rfl
  refine⟨Ym _,λu hu=>?_⟩
  have g:=(Zf.refl Hy).upd (o:=.lst []) hu
  have e0:=Zqy (K:=K) (g _ _ hys) (Zb (H:=Hy) (a:=u) (o:=.lst []))
  replace hye:=g _ _ hye
  replace hys:=g _ _ hys
  replace sy:=sy.trans g
  generalize upd Hy u (.lst [])=Hz at hye hys sy e0⊢
  refine⟨_,e0,?_⟩
  rcases snoc_cases A' with rfl|⟨A1,a,rfl⟩
  ·rw[Y2 rfl]
   refine Z2 (λz=>nomatch z) λ_=>⟨Zam hys,_,hys,Ys (show _<=1000 by simp[Zr]) (by decide),Zbq es [] B i,?_,[]++[i],by rw[Zb,esn],by rw[Zfv];exact hel',hst,hno,hEn,sy.upd zsp⟩
   rw[Zh nes,hye];rfl
  ·rw[YR (by simp)]
   have hat:atI (Zr (A1++[a])) (-1)=some (V.int (a:Nat)):=ZhI _ _
   have hl2:(match B.head? with|some b=>es.set b i|none=>es).length=ds.length:=by split<;>simp[hel']
   have eE:(match B.head? with|some b=>es.set b (i:Int)|none=>es).set i (a:Int)=Zbq es (A1++[a]) B i:=by unfold Zbq;rw[show(A1++[a]).getLast?=some a by simp]<;>rfl
   refine Z2 (λ_=>⟨_,SqL.of hys,_,hat,_,hye,i,by rw[Yi,hl2];exact Zhd hi,?_⟩) λz=>absurd rfl z
   have em:((match B.head? with|some b=>es.set b (i:Int)|none=>es).map V.int).set i (V.int (a:Nat))=(Zbq es (A1++[a]) B i).map V.int:=by rw[<-eE,List.map_set]
   rw[em]
   have hys2:(upd Hz el (.lst ((Zbq es (A1++[a]) B i).map V.int))) sp=some (.lst (Zr (A1++[a]))):=by rw[Zh nes.symm];exact hys
   refine⟨Zam hys2,_,hys2,Ys (show _<=1000 by rw[ZV];omega) (by decide),Zbq es (A1++[a]) B i,by rw[Zh nes,Zb],A1++[a]++[i],by rw[Zb,esn],by rw[Zfv];exact hel',hst,hno,hEn,(sy.upd zel).upd zsp⟩
 ·rintro σ Hx ⟨es,S,v3,v4,v5,rfl,hxe,hxs,hel',hH,hSl,hE,sx⟩
  walk_at "rd"
  exact⟨_,.inl ⟨SqL.of hxe,λu hu=>k1 u es _ (sx.free hu) hel' (hH.tree hel') (sx.ZJ hu) Zb⟩⟩
theorem ok__law_tree {f:Addr}{fd:FuncData} (F:Fun K "_law_tree" "_law_tree" s__law_tree f fd) (ZdG:Callee P w K mg base "_law_size" 2 ["pool","most"] (sp__law_size K mg)) (ZcU:Callee P w K mg base "_law_drops" 2 ["pool","many"] (sp__law_drops K mg)) (ZdH:Callee P w K mg base "_law_hung" 1 ["drops"] (sp__law_hung K mg)) (T:Txt K mg):FnOk P w K mg base (CXE P w) 3 f fd ["pool","most"] (sp__law_tree K mg):=by
 refine F.okX sc__law_tree (λvs H Q E h=>?_) (λcdv A outer s H vs Q E hr h=>?_)
 ·obtain⟨p,most,rfl,_⟩:=h;rfl
 obtain⟨p,most,rfl,hm,hP,k1⟩:=h
 refine⟨_,(Zg (Zs (Zj ZdH (hr.mono (by decide)) rfl Zn (Za (Zj ZcU (hr.mono (by decide)) rfl Zn (Za (pv 0) (Za (Zj ZdG (hr.mono (by decide)) rfl Zn (Za (pv 0) (Za (pv 1) Zc))) Zc))) Zc)))),?_⟩
 walk_at "rd"
 refine⟨p,most,rfl,by omega,by omega,hP,λn H1 n0 n1 P1 e1=>?_⟩
 obtain⟨m,rfl⟩:=Y6 n0
 refine⟨p,m,rfl,by omega,P1,λt ds H2 zt hd hD ht P2 e2=>⟨t,ds,rfl,ht,by omega,hD,λu es H3 zu hel hT s3 hu=>?_⟩⟩
 have e12:=e1.trans e2
 exact k1 u es H3 (e12.free (P2.ne zu) zu) (by omega) hT hu (P2.same s3) (e12.same s3)
theorem ok_need_short {f:Addr}{fd:FuncData} (F:Fun K "need_short" "need_short" s_need_short f fd) (T:Txt K mg):FnOk P w K mg base (CXE P w) 1 f fd ["told"] (sp_need_short K mg):=by
 refine F.okX sc_need_short (λvs H Q E h=>?_) (λcdv A outer s H vs Q E hr h=>?_)
 ·obtain⟨t,xs,rfl,_⟩:=h;rfl
 obtain⟨t,xs,rfl,ht,hn,k1⟩:=h
 refine⟨_,(Zg (Z9 (PW.pt (Zl6 (Zci (Zhi (Zk (ZmV (K:=K) rfl) rfl T.b_isinstance ZeH (Za (pv 0) (Za (Zl5 (v:=.ty "tuple") rfl T.b_tuple ZaQ rfl) Zc))))) (Zje (Zx ZbY (Zk (Zp (K:=K) rfl) rfl T.b_len Yv (Za (pv 0) Zc)) (Zby (v:=.int 40) rfl T.m_MOST_PLACES ⟨_,rfl⟩) (Zz _))))) (Zg (Zbo rfl rfl T.c_NoTelling T.x_NoTelling (Za (Za0 (Zab (by decide) (Zcl (Zby (v:=.int 40) rfl T.m_MOST_PLACES ⟨_,rfl⟩) (Zab (by decide) Zdv)))) Zc) Zb1)) ZC)),?_⟩
 walk_at "rd"
 refine⟨true,.inl ⟨_,.tup ht,Zod⟩,Z2 (λz=>nomatch z) λ_=>⟨_,.inr (SqT.of ht),Z2 (λz=>absurd z (by omega)) λ_=>k1⟩⟩
theorem ok_by_drops {f:Addr}{fd:FuncData} (F:Fun K "by_drops" "by_drops" s_by_drops f fd) (ZcF:Callee P w K mg base "settle" 1 ["elders","spine","place","keep"] (sp_settle K mg)) (ZcV:Callee P w K mg base "need_short" 1 ["told"] (sp_need_short K mg)) (T:Txt K mg):FnOk P w K mg base (CXE P w) 2 f fd ["told"] (sp_by_drops K mg):=by
 refine F.okX sc_by_drops (λvs H Q E h=>?_) (λcdv A outer s H vs Q E hr h=>?_)
 ·obtain⟨t,xs,rfl,_⟩:=h;rfl
 obtain⟨t,ds,rfl,ht,hn,hD,k1⟩:=h
 refine⟨_,(Zd (ZN (Zj ZcV (hr.mono (by decide)) rfl Za3 (Za (pv 0) Zc)))
   (Zd (Zm (i:=1) sc_by_drops.nd rfl (Or.inl rfl) (Zq ZcL (ZX (Za (Zbm ZaC Ze) Zc)) (Zk (Zp (K:=K) rfl) rfl T.b_len Yv (Za (pv 0) Zc))))
   (Zd (Zm (i:=2) sc_by_drops.nd rfl (Or.inl rfl) (ZX Zc))
   (Zd (Zae PassesOwn.leaving rfl (ZhE (K:=K) rfl rfl T.b_enumerate (Za (pv 0) Zc)) (ZcH (n:=2) rfl (ZE (Zl (i:=3) sc_by_drops.nd rfl (Or.inl rfl)) (ZE (Zl (i:=4) sc_by_drops.nd rfl (Or.inl rfl)) Za2))) (Zd (Z9 (Zci (Zcz ZeF ZeF Ze (pv 4) (Zk (Zp (K:=K) rfl) rfl T.b_len Yv (Za (pv 2) Zc)))) (Zg (Zbo rfl rfl T.c_NoTelling T.x_NoTelling (Za (Za0 (Zab (by decide) (Zcl (pv 3) Zdv))) Zc) Zb1)) ZC)
   (Zg (ZN (Zj ZcF (hr.mono (by decide)) rfl Zn (Za (pv 1) (Za (pv 2) (Za (pv 3) (Za (Zq Zbd (Zk (Zp (K:=K) rfl) rfl T.b_len Yv (Za (pv 2) Zc)) (pv 4)) Zc)))))))))
   (Zg (Zs (Zat (Zi6 (K:=K) rfl) rfl T.b_tuple ZaQ (Za (pv 1) Zc)))))))),?_⟩
 walk_at "rd"
 have eL:(Zr ds).length=ds.length:=ZV ds
 refine⟨t,_,rfl,ht,by rw[eL];exact hn,by decide,λp hp=>⟨_,.inr (SqT.of (((Zf.refl H).upd hp) _ _ ht)),_,Zb,by omega,by rw[eL];omega,?_,λel hel=>⟨Ym _,λsp hsp=>?_⟩⟩⟩
 ·exact Yf (show _<=1000 by simp;omega) (by decide)
 have en:(((Zr ds).length:Nat):Int).toNat=ds.length:=by rw[eL];omega
 have s0:Zf H (upd (upd (upd H p (.lst [V.int (-1)])) el (.lst (List.replicate (((Zr ds).length:Nat):Int).toNat [V.int (-1)]).flatten)) sp (.lst [])):=(((Zf.refl H).upd hp).ZJ hel).ZJ hsp
 refine⟨_,SqT.of (s0 _ _ ht),?_⟩
 have hel0:(upd (upd (upd H p (.lst [V.int (-1)])) el (.lst (List.replicate (((Zr ds).length:Nat):Int).toNat [V.int (-1)]).flatten)) sp (.lst [])) el=some (.lst ((List.replicate ds.length (-1:Int)).map V.int)):=by
  have:=((Zf.refl _).ZJ (o:=.lst []) hsp) el _ Zb
  rw[this,en];simp
 have hsp0:(upd (upd (upd H p (.lst [V.int (-1)])) el (.lst (List.replicate (((Zr ds).length:Nat):Int).toNat [V.int (-1)]).flatten)) sp (.lst [])) sp=some (.lst (Zr [])):=Zb
 have nes:el≠sp:=λz=>by
  subst z
  rw[Zb]at hsp;cases hsp
 have zel:H el=none:=((Zf.refl H).upd hp).free hel
 have zsp:H sp=none:=(((Zf.refl H).upd hp).ZJ hel).free hsp
 rw[en]at hel0 hsp0 s0⊢
 generalize (upd (upd (upd H p (.lst [V.int (-1)])) el (.lst (List.replicate ds.length [V.int (-1)]).flatten)) sp (.lst []))=H0 at s0 hel0 hsp0⊢
 refine ZcR (n:=ds.length) (λi σ Hx=>∃(es:List Int) (S:List Nat) (v3 v4:Option V),σ=[some (.ref t),some (.ref el),some (.ref sp),v3,v4]/\Hx el=some (.lst (es.map V.int))/\Hx sp=some (.lst (Zr S))/\ZP ds i=(S,es)/\Zf H Hx)
  ⟨List.replicate ds.length (-1),[],none,none,rfl,hel0,hsp0,rfl,s0⟩ (λi σ Hx hi ⟨_,_,_,_,_,_,_,_,sx⟩=>⟨_,_,SqT.of (sx _ _ ht),Yh (by rw[eL];exact hi)⟩) (fun σ Hx ⟨_,_,_,_,_,_,_,_,sx⟩=>⟨_,SqT.of (sx _ _ ht),eL⟩) ?_ ?_
 ·rintro i x σ Hx Hx' hi ⟨es,S,v3,v4,rfl,hxe,hxs,hst0,sx⟩ ⟨q,x,hq,rfl,rfl,hx⟩
  have ex:=hx _ (SqT.of (sx _ _ ht))
  have ed:(Zr ds)[i]?=some (V.int (ds.getD i 0:Nat)):=by simp[Zr,Yg,hi]
  rw[ed]at ex
  cases ex
  have hdi:=hD i hi
  obtain⟨hH,hSl,hel',_⟩:=ZiY hD i (by omega)
  rw[hst0]at hH hSl hel'
  have hSlt:=hH.lt
  have hok:=ZhH ds i
  have hSl:S.length=ZD ds i:=hSl
  have hel':es.length=ds.length:=hel'
  rw[<-hSl]at hdi hok
  generalize hdd:ds.getD i 0=d at hdi ed hx hq⊢
  have g:=(Zf.refl Hx).upd (o:=.tup [.int (i:Int),.int (d:Nat)]) hq
  have tq:(upd Hx q (.tup [.int (i:Int),.int (d:Nat)])) q=some (.tup [.int (i:Int),.int (d:Nat)]):=Zb
  replace sx:=sx.trans g
  replace hxe:=g _ _ hxe
  replace hxs:=g _ _ hxs
  generalize upd Hx q (.tup [.int (i:Int),.int (d:Nat)])=Hy at sx hxe hxs tq⊢
  clear g hx hq Hx
  refine⟨q,_,rfl,SqT.of tq,rfl,_,_,rfl,_,_,rfl,rfl,?_⟩
  clear tq
  obtain⟨A',B,hAB,hBl⟩:=ZeX S hdi
  have hSAB:S.length=A'.length+B.length:=by rw[hAB,YD]
  walk_at "rd"
  have hlx:(Zr S).length=S.length:=ZV S
  refine Z2 (λ_=>⟨_,.inl (SqL.of hxs),Z2 (λz=>absurd ?_ z) λ_=>⟨_,.inl (SqL.of hxs),?_⟩⟩) λz=>absurd (by omega) z
  ·rw[hlx];omega
  refine⟨el,sp,es,A',B,i,?_,hxe,by rw[<-hAB];exact hxs,nes,by omega,λq hq=>by have:=hSlt q (by rw[hAB];exact hq);omega,by rw[<-hAB];omega,λH' q1 q2 q3=>?_⟩
  ·rw[hlx,show((S.length:Nat):Int)-(d:Nat)=(A'.length:Nat) by omega]
  refine⟨Zbq es A' B i,q2,A'++[i],q3,?_,λb o z=>q1 b o (Zo z zel) (Zo z zsp) (sx b o z)⟩
  rw[ZgC (A:=A') (B:=B) (by rw[hst0];exact hAB) (by rw[hBl,hdd]),hst0]
 ·rintro σ Hx ⟨es,S,v3,v4,rfl,hxe,hxs,hst0,sx⟩
  walk_at "rd"
  exact⟨_,SqL.of hxe,λu H7 zu s7 hu=>k1 u H7 (sx.trans s7) (by unfold Zmu;rw[hst0];exact hu)⟩
theorem ok_tree_at {f:Addr}{fd:FuncData} (F:Fun K "tree_at" "tree_at" s_tree_at f fd) (ZaN:Callee P w K mg base "need_count" 1 ["n"] (sp_need_count K mg)) (Ze0:Callee P w K mg base "by_drops" 2 ["told"] (sp_by_drops K mg)) (Zgf:Callee P w K mg base "pick" 1 ["ways","number"] (sp_pick K mg)) (ZdI:Callee P w K mg base "goings_on" 2 ["n"] (sp_goings_on K mg)) (ZdJ:Callee P w K mg base "drop_ways" 1 ["goings","still"] (sp_drop_ways K mg)) (T:Txt K mg):FnOk P w K mg base (CXE P w) 3 f fd ["n","number"] (sp_tree_at K mg):=by
 refine F.okX sc_tree_at (λvs H Q E h=>?_) (λcdv A outer s H vs Q E hr h=>?_)
 ·obtain⟨n,x,rfl,_⟩:=h;rfl
 obtain⟨n,x,rfl,k1,k2,k3⟩:=h
 refine⟨_,(Zd (ZN (Zj ZaN (hr.mono (by decide)) rfl Za3 (Za (pv 0) Zc)))
   (Zd (Zm (i:=2) sc_tree_at.nd rfl (Or.inl rfl) (Zj ZdI (hr.mono (by decide)) rfl Zn (Za (pv 0) Zc)))
   (Zd (Z9 (Zci (Zcz ZeF Zgs Ze (pv 1) (ZM Zu (ZM Zu (pv 2) (pv 0) (λ_ _=>rfl)) Ze (λ_ _=>rfl)))) (Zg (Zbo rfl rfl T.c_NoNumber T.x_NoNumber (Za (Za0 (Zab (by decide) (Zcl (pv 0) (Zab (by decide) Zdv)))) Zc) Zb1)) ZC)
   (Zd (Zm (i:=3) sc_tree_at.nd rfl (Or.inl rfl) (ZX Zc))
   (Zd (Zm (i:=4) sc_tree_at.nd rfl (Or.inl rfl) Ze)
   (Zd (Z3 (Zae PassesOwn.never rfl (Zmv rfl T.b_reversed (Za (Zf4 rfl T.b_range (Za (pv 0) Zc)) Zc)) (Zl (i:=5) sc_tree_at.nd rfl (Or.inl rfl)) (Zd (Zcj (Zj Zgf (hr.mono (by decide)) rfl Zn (Za (Zj ZdJ (hr.mono (by decide)) rfl Zn (Za (ZM Zu (pv 2) (pv 5) (λ_ _=>rfl)) (Za (pv 4) Zc))) (Za (pv 1) Zc))) (ZcH (n:=2) rfl (ZE (Zl (i:=6) sc_tree_at.nd rfl (Or.inl rfl)) (ZE (Zl (i:=1) sc_tree_at.nd rfl (Or.inl rfl)) Za2))))
   (Zd (ZN (ZeG PySem.F.plainAttrs_list PySem.F.slot_list_append PySem.F.type_list_append Zau (pv 3) (Za (pv 6) Zc)))
   (Zg (Zdr (i:=4) sc_tree_at.nd rfl (Or.inl rfl) (Zq Zbd Ze (pv 6)) Zjg))))))
   (Zg (Zs (Zj Ze0 (hr.mono (by decide)) rfl Za3 (Za (Zat (ZbK (K:=K) rfl) rfl T.b_tuple ZaQ (Za (pv 3) Zc)) Zc)))))))))),?_⟩
 walk_at "rd"
 refine⟨n,rfl,λhn=>?_,λhn=>k1 hn H (Zf.refl H)⟩
 obtain⟨m,rfl⟩:=Y6 hn.1
 have hm:m<=40:=by omega
 replace k2:=k2 m rfl hm
 replace k3:=k3 m rfl hm
 refine⟨m,rfl,hm,λtb H1 s1 htb=>?_⟩
 have hgl:(goTab (m+1) m).length=m+1:=by simp[goTab]
 refine Z2 (λhx0=>?_) λhx0=>⟨by omega,by omega,λy=>⟨by decide,k2 (λz=>hx0 z.1) H1 s1⟩⟩
 obtain⟨xs,a,x1,x2,x3⟩:=htb.at (K:=K) (i:=m) (by rw[hgl];omega)
 have er:(goTab (m+1) m)[m]'(by rw[hgl];omega)=ZS m 1:=by
  unfold goTab
  rw[List.getElem_map,List.getElem_range];congr 1;omega
 rw[er]at x3
 have e0:atI ((ZS m 1).map V.int) 0=some (V.int (goN m 0)):=by
  have:=Zdw (ns:=ZS m 1) (i:=0) (by rw[Zey];omega)
  rw[ZiZ (by omega)]at this
  exact this
 refine⟨tb,rfl,_,x1,_,x2,a,rfl,_,SqL.of x3,_,e0,_,rfl,Z2 (λz=>⟨by omega,by omega,λy=>⟨by decide,k2 (λq=>z q.2) H1 s1⟩⟩) λhx1=>?_⟩
 replace hx1:=Decidable.not_not.mp hx1
 clear x1 x2 x3 er e0 xs a k1 k2
 refine⟨Ym _,λdl hdl=>⟨by omega,by omega,λrg hrg=>⟨_,_,Zb,by omega,by omega,by omega,by omega,?_⟩⟩⟩
 rw[show((m:Int)-0).toNat=m by omega]
 have g0:=((Zf.refl H1).upd (o:=.lst []) hdl).ZJ (o:=.rng 0 m) hrg
 have hd0:(upd (upd H1 dl (.lst [])) rg (.rng 0 m)) dl=some (.lst (Zr [])):=((Zf.refl _).ZJ hrg) _ _ Zb
 generalize upd (upd H1 dl (.lst [])) rg (.rng 0 m)=H2 at g0 hd0⊢
 clear hrg rg
 refine ZcR (n:=m) (λk σ Hx=>∃v5 v6,σ=[some (.int (m:Int)),some (.int (Z8 m x k).2),some (.ref tb),some (.ref dl),some (.int (ZD (Z8 m x k).1 k:Nat)),v5,v6]/\Hx dl=some (.lst (Zr (Z8 m x k).1))/\Zf H1 Hx) ⟨none,none,rfl,hd0,g0⟩ (λi σ Hx hi _=>hi) (fun σ Hx _=>Yd _) ?_ ?_
 ·clear g0 hd0 H2
  rintro k v σ Hx Hx' hk ⟨v5,v6,rfl,hxd,sx⟩ ⟨rfl,rfl⟩
  obtain⟨u1,u2,u3,u4⟩:=ZjA hx0 hx1 k (by omega)
  have hok:=ZhH (Z8 m x k).1 k
  have es1:(Z8 m x (k+1)).1=(Z8 m x k).1++[(Z1 (Za5 (m-1-k) (ZD (Z8 m x k).1 k)) (Z8 m x k).2).1]:=rfl
  have es2:(Z8 m x (k+1)).2=(Z1 (Za5 (m-1-k) (ZD (Z8 m x k).1 k)) (Z8 m x k).2).2:=rfl
  have eso:=Znh u1
  rw[show m-k=m-1-k+1 by omega,<-Zez]at u4
  have P1:=(ZfE _ _ u3 u4).1
  rw[Zf9]at P1
  generalize ZD (Z8 m x (k+1)).1 (k+1)=st' at eso⊢
  rw[es1,es2]
  clear es1 es2 u2
  generalize (Z8 m x k).2=y at u3 u4 P1 eso⊢
  generalize ZD (Z8 m x k).1 k=st at u4 P1 eso hok⊢
  generalize (Z8 m x k).1=ds at u1 hxd⊢
  obtain⟨xs,a,x1,x2,x3⟩:=(htb.same sx).at (K:=K) (i:=m-1-k) (by rw[hgl];omega)
  have er:(goTab (m+1) m)[m-1-k]'(by rw[hgl];omega)=ZS (m-1-k) (k+2):=by
   unfold goTab
   rw[List.getElem_map,List.getElem_range];congr 1;omega
  rw[er]at x3
  have ei:(0:Int)+(m:Nat)-1-(k:Nat)=((m-1-k:Nat):Int):=by omega
  rw[ei]
  walk_at "rd"
  refine⟨_,x1,_,x2,a,m-1-k,k+2,st,rfl,x3,by omega,by omega,λl H3 s3 hl=>⟨l,Za5 (m-1-k) st,y,rfl,hl,u3,u4,λu H4 s4 hu=>?_⟩⟩
  generalize Z1 (Za5 (m-1-k) st) y=p at P1 eso hu⊢
  have s5:=s3.trans s4
  have hd4:=s5 _ _ hxd
  refine⟨u,rfl,_,SqT.of hu,rfl,_,_,rfl,_,_,rfl,rfl,Zam hd4,_,hd4,Ys (show _<=1000 by rw[ZV];omega) (by decide),_,rfl,rfl,?_,?_,(sx.trans s5).upd hdl⟩
  ·rw[eso];omega
  ·rw[Zb,ZbL];rfl
 ·rintro σ Hx ⟨v5,v6,rfl,hxd,sx⟩
  walk_at "rd"
  obtain⟨u1,u2,_⟩:=ZjA hx0 hx1 m (by omega)
  refine⟨_,.inl ⟨SqL.of hxd,λu hu=>⟨u,(Z8 m x m).1,rfl,Zb,by omega,u2,λw' H3 s3 hw=>k3 hx0 hx1 w' H3 (s1.trans ((sx.ZJ hu).trans s3)) hw⟩⟩⟩
noncomputable def AheadTo (T:List Int) (j v:Nat):Option Nat->Prop
 |none=>∀c,c<v->c<j->nth T c≠v
 |some c=>c<v/\c<j/\nth T c=v
noncomputable def BehindTo (T:List Int) (j v:Nat):Option Nat->Prop
 |none=>∀c,v<c->c<j->nth T c≠v
 |some c=>v<c/\c<j/\nth T c=v
noncomputable def YTo (H:Hp) (as:List Addr) (T:List Int) (j:Nat):Prop:=∀(v:Nat) (a:Addr),as[v]?=some a->∃ah bh,AheadTo T j v ah/\BehindTo T j v bh/\H a=some (.lst [optN ah,optN bh])
theorem AheadTo.skip {T:List Int}{j v:Nat}{o:Option Nat} (h:AheadTo T j v o) (n:¬ (j<v/\nth T j=v)):AheadTo T (j+1) v o:=by
 cases o with
 |none =>
  intro c c1 c2 e
  by_cases z:c=j
  ·subst z;exact n ⟨c1,e⟩
  ·exact h c c1 (by omega) e
 |some c=>exact⟨h.1,by have:=h.2.1;omega,h.2.2⟩
theorem BehindTo.skip {T:List Int}{j v:Nat}{o:Option Nat} (h:BehindTo T j v o) (n:¬ (v<j/\nth T j=v)):BehindTo T (j+1) v o:=by
 cases o with
 |none =>
  intro c c1 c2 e
  by_cases z:c=j
  ·subst z;exact n ⟨c1,e⟩
  ·exact h c c1 (by omega) e
 |some c=>exact⟨h.1,by have:=h.2.1;omega,h.2.2⟩
theorem YTo.same {H H':Hp}{as:List Addr}{T:List Int}{j:Nat} (h:YTo H as T j) (s:Zf H H'):YTo H' as T j:=λv a e=>by
 obtain⟨ah,bh,h1,h2,h3⟩:=h v a e
 exact⟨ah,bh,h1,h2,s _ _ h3⟩
theorem YTo.skip {H:Hp}{as:List Addr}{T:List Int}{j:Nat} (h:YTo H as T j) (n:∀v:Nat,v<as.length->nth T j≠v):YTo H as T (j+1):=λv a e=>by
 obtain⟨ah,bh,h1,h2,h3⟩:=h v a e
 have hv:=(Yr.mp e).1
 exact⟨ah,bh,h1.skip λz=>n v hv z.2,h2.skip λz=>n v hv z.2,h3⟩
theorem YTo.set {H:Hp}{as:List Addr}{T:List Int}{j q:Nat}{a:Addr}{ah bh:Option Nat} (h:YTo H as T j) (nd:as.Nodup) (ea:as[q]?=some a) (hA:AheadTo T (j+1) q ah) (hB:BehindTo T (j+1) q bh) (eq:nth T j=q):YTo (upd H a (.lst [optN ah,optN bh])) as T (j+1):=λv b e=>by
 by_cases c:v=q
 ·subst c
  rw[ea]at e;cases e
  exact⟨ah,bh,hA,hB,Zb⟩
 ·have nb:b≠a:=λz=>by
   subst z
   obtain⟨h1,e1⟩:=Yr.mp ea
   obtain⟨h2,e2⟩:=Yr.mp e
   exact c ((List.getElem_inj nd (h₀:=h2) (h₁:=h1)).mp (e2.trans e1.symm))
  obtain⟨ah',bh',h1,h2,h3⟩:=h v b e
  exact⟨ah',bh',h1.skip λz=>c (by have:=z.2;omega),h2.skip λz=>c (by have:=z.2;omega),by rw[Zh nb];exact h3⟩
theorem ok_young_of {f:Addr}{fd:FuncData} (F:Fun K "young_of" "young_of" s_young_of f fd) (T:Txt K mg):FnOk P w K mg base (CXE P w) 1 f fd ["tree"] (sp_young_of K mg):=by
 refine F.okX sc_young_of (λvs H Q E h=>?_) (λcdv A outer s H vs Q E hr h=>?_)
 ·obtain⟨t,T,rfl,_⟩:=h;rfl
 obtain⟨t,T',rfl,ht,hG,k1⟩:=h
 refine⟨_,(Zd (Zfy (i:=1) ["place"] [none] sc_young_of.nd rfl (Or.inl rfl) rfl rfl rfl (pi_tup (pv 0)) (λ_ _ _ _ _=>(Zl (i:=0) (show(["place"]:List Str).Nodup from by decide +kernel) rfl (Or.inl rfl))) (λ_ _ _ _ _=>ZaE) (λ_ _ _ _ _=>(ZX (Za Zjd (Za Zjd Zc)))) ZQ)
   (Zd (Z3 (Zae PassesOwn.never rfl (ZhE (K:=K) rfl rfl T.b_enumerate (Za (pv 0) Zc)) (ZcH (n:=2) rfl (ZE (Zl (i:=2) sc_young_of.nd rfl (Or.inl rfl)) (ZE (Zl (i:=3) sc_young_of.nd rfl (Or.inl rfl)) Za2))) (Zg (Z9 (Zx Zmb (pv 3) Ze (Zz _)) (Zg (Zcj (pv 2) (ZeR (ZM Zu (pv 1) (pv 3) (λ_ _=>rfl)) (Zfn (Zx ZbY (pv 2) (pv 3) (Zz _)) Ze Ze) set_list (λ_=>rfl)))) ZC))))
   (Zg (Zs (pv 1))))),?_⟩
 have h40:=hG.1
 obtain⟨_,nsT,hT⟩:=id hG
 have eT:=hT.1
 have eL:(T'.map V.int).length=T'.length:=Yi ..
 walk_at "rd"
 refine⟨⟨_,ht⟩,Zfs (n:=T'.length) (λj acc Hz=>∃as:List Addr,acc=as.map V.ref/\as.length=j/\as.Nodup/\(∀a∈as,Hz a=some (.lst [.non,.non])/\H a=none)/\Zf H Hz) (Ys (show _<=1000 by omega) (by decide)) ⟨[],rfl,rfl,List.nodup_nil,(λa ha=>absurd ha (by simp)),Zf.refl H⟩ (λj acc Hz ⟨_,_,_,_,_,e⟩ hj=>⟨_,_,(e.Zbp ht),nthV hj⟩) (λacc Hz ⟨_,_,_,_,_,e⟩=>⟨_,(e.Zbp ht),Y5 eL⟩) ?_ ?_⟩
 ·rintro j x acc Hz Hw hj hla ⟨as,rfl,hal,hnd,has,sz⟩ ⟨rfl,hx⟩
  walk_at "rd"
  refine⟨by decide,λp zp=>CA.take hj hla ⟨as++[p],by simp,by simp[hal],?_,λa ha=>?_,sz.ZJ zp⟩⟩
  ·rw[List.nodup_append]
   refine⟨hnd,by simp,λa ha b hb=>?_⟩
   have:b=p:=by simpa using hb
   subst this
   exact λz=>by rw[z]at ha;rw[(has _ ha).1]at zp;cases zp
  ·rcases Yz.mp ha with z|z
   ·exact⟨((Zf.refl _).upd zp) _ _ (has a z).1,(has a z).2⟩
   ·have:a=p:=by simpa using z
    subst this
    exact⟨Zb,sz.free zp⟩
 rintro y acc Hz ⟨as,rfl,hal,hnd,has,sz⟩ _ zy
 have gy:=(Zf.refl Hz).upd (o:=.lst (as.map V.ref)) zy
 have hyy:=Zb (H:=Hz) (a:=y) (o:=.lst (as.map V.ref))
 have s1:=sz.trans gy
 have zy0:=sz.free zy
 have ny:y∉as:=λz=>by rw[(has _ z).1]at zy;cases zy
 have Y0:YTo (upd Hz y (.lst (as.map V.ref))) as T' 0:=λv a e=>⟨none,none,(λc _ h=>absurd h (by omega)),(λc _ h=>absurd h (by omega)),gy _ _ (has a (List.mem_of_getElem? e)).1⟩
 generalize upd Hz y (.lst (as.map V.ref))=H1 at gy hyy s1 Y0⊢
 refine⟨_,(s1.Zbp ht),?_⟩
 refine ZcR (n:=T'.length) (λj σ Hx=>∃v2 v3:Option V,σ=[some (.ref t),some (.ref y),v2,v3]/\Hx y=some (.lst (as.map V.ref))/\YTo Hx as T' j/\Zf H Hx) ⟨none,none,rfl,hyy,Y0,s1⟩ (λj σ Hx hj ⟨_,_,_,_,_,e⟩=>⟨_,_,(e.Zbp ht),nthV hj⟩) (fun σ Hx ⟨_,_,_,_,_,e⟩=>⟨_,(e.Zbp ht),eL⟩) ?_ ?_
 ·rintro j x σ Hx Hw hj ⟨v2,v3,rfl,hyx,Yx,sx⟩ ⟨p,w,zp,rfl,rfl,hx⟩
  have ex:=hx _ ((sx.Zbp ht))
  rw[nthV hj]at ex
  cases ex
  walk_at "rd"
  have gp:=(Zf.refl Hx).upd (o:=.tup [V.int (j:Int),V.int (nth T' j)]) zp
  have hp:=Zb (H:=Hx) (a:=p) (o:=.tup [V.int (j:Int),V.int (nth T' j)])
  generalize upd Hx p (.tup [V.int (j:Int),V.int (nth T' j)])=H2 at gp hp⊢
  refine⟨_,SqT.of hp,rfl,_,_,rfl,_,_,rfl,rfl,_,rfl,?_⟩
  have sx2:=sx.trans gp
  have hyx2:=gp _ _ hyx
  have Yx2:=Yx.same gp
  refine Z2 (λc0=>?_) λc0=>⟨hyx2,Yx2.skip λv _=>by omega,sx2⟩
  have hq:∃q:Nat,nth T' j=q/\q<T'.length/\q≠j:=by
   rcases Zb3 hT (p:=j) (by omega)with z|⟨q,ez,hq,hO,hd⟩
   ·omega
   ·refine⟨q,ez,by omega,λe=>?_⟩
    subst e;omega
  obtain⟨q,eq,hqT,nqj⟩:=hq
  obtain⟨a,ea⟩:∃a,as[q]?=some a:=⟨_,Yh (by omega)⟩
  obtain⟨ah,bh,hA,hB,ha⟩:=Yx2 q a ea
  have na:a≠y:=λz=>ny (z▸List.mem_of_getElem? ea)
  have za:H a=none:=(has a (List.mem_of_getElem? ea)).2
  refine⟨_,_,rfl,SqL.of hyx2,V.ref a,by rw[eq];exact Zb0 (by rw[YE,ea];rfl),_,rfl,_,rfl,Z2 (λc1=>?_) λc1=>?_⟩
  ·refine⟨a,rfl,_,ha,1,rfl,by rw[Zh na.symm];exact hyx2,?_,sx2.upd za⟩
   exact Yx2.set (ah:=ah) (bh:=some j) hnd ea (hA.skip λz=>by omega) ⟨by omega,by omega,eq⟩ eq
  ·refine⟨a,rfl,_,ha,0,rfl,by rw[Zh na.symm];exact hyx2,?_,sx2.upd za⟩
   exact Yx2.set (ah:=some j) (bh:=bh) hnd ea ⟨by omega,by omega,eq⟩ (hB.skip λz=>by omega) eq
 ·rintro σ Hx ⟨v2,v3,rfl,hyx,Yx,sx⟩
  walk_at "rd"
  refine k1 y Hx zy0 ⟨as,hyx,hal,λv a e=>?_⟩ sx
  obtain⟨ah,bh,h1,h2,h3⟩:=Yx v a e
  refine⟨ah,bh,?_,?_,h3⟩
  ·cases ah with
   |none=>exact h1
   |some c=>exact h1
  ·cases bh with
   |none=>exact h2
   |some c=>exact h2
theorem ok_from_below {f:Addr}{fd:FuncData} (F:Fun K "from_below" "from_below" s_from_below f fd) (Zar:Callee P w K mg base "way_up" 1 ["tree","place"] (sp_way_up K mg)) (L:LamD K mg "from_below" f) (B:BM mg base) (T:Txt K mg):FnOk P w K mg base (CXE P w) 5 f fd ["tree"] (sp_from_below K mg):=by
 refine F.okL L B sc_from_below (λvs H Q E h=>?_) (λcdv A outer s H vs Q E LI hr h=>?_)
 ·obtain⟨t,T,rfl,_⟩:=h;rfl
 obtain⟨t,T',rfl,ht,hG,hTb,k1⟩:=h
 refine⟨_,(Zg (Zs (Zno (Nc:=["place","tree"]) (js:=[none,some 0]) (pn:="place") (q:=lamQ "from_below") (P:=ZjC K mg "from_below") rfl hr ⟨rfl,rfl,rfl,rfl,rfl,rfl,rfl,λ_ _ _ _ _ _=>rfl⟩ (λ_ _ _ _ _ _=>(Zk (Zp (K:=K) rfl) rfl T.b_len Yv (Za (Zj Zar ((hr.in1.in1.deeper _).mono (by decide)) rfl Zn (Za (pv 1) (Za (pv 0) Zc))) Zc))) rfl T.b_sorted (Za (Zf4 rfl T.b_range (Za (Zk (Zp (K:=K) rfl) rfl T.b_len Yv (Za (pv 0) Zc)) Zc)) Zc) (Zeq (pe_lam ⟨LI.code,LI.bm,LI.ql⟩ rfl) (Zeq Zfm Zhp))))),?_⟩
 walk_at "rd"
 have eL:(T'.map V.int).length=T'.length:=Yi ..
 have h40:=hG.1
 refine⟨_,.inr (ht),by omega,by omega,λp1 hp1=>?_⟩
 rw[eL]
 have g1:=(Zf.refl H).ZJ (o:=.rng 0 (T'.length:Int)) hp1
 have h1:=Zb (H:=H) (a:=p1) (o:=.rng 0 (T'.length:Int))
 generalize upd H p1 (.rng 0 (T'.length:Int))=H4 at g1 h1⊢
 refine⟨g1 _ _ hTb,λf1 H5 zf s5 LO=>⟨_,s5 _ _ h1,by omega,by omega,LO,dpI T',λi H6 i0 i1 s6=>?_,λps l H6 hpm hpw s6 zl hl=>k1 l ps H6 ((g1.trans s5).free zl) ((g1.trans s5).trans s6) hpm hpw hl⟩⟩
 obtain⟨j,rfl⟩:=Y6 i0
 have g6:=(g1.trans s5).trans s6
 exact⟨t,T',j,rfl,g6.Zbp ht,by omega,by omega,λw H7 zw s7 hw=>⟨w,rfl,_,.inl (SqL.of hw),by rw[Yi];rfl,s7⟩⟩
theorem ok_need_few {f:Addr}{fd:FuncData} (F:Fun K "need_few" "need_few" s_need_few f fd) (T:Txt K mg):FnOk P w K mg base (CXE P w) 1 f fd ["many","m"] (sp_need_few K mg):=by
 refine F.okX sc_need_few (λvs H Q E h=>?_) (λcdv A outer s H vs Q E hr h=>?_)
 ·obtain⟨n,m,rfl,_⟩:=h;rfl
 obtain⟨n,m,rfl,hn,hm,k1⟩:=h
 refine⟨_,(Zg (Z9 (PW.pt (Zl6 (Zx ZbY (pv 0) (Zby (v:=.int 12) rfl T.m_MOST_FILLED ⟨_,rfl⟩) (Zz _)) (Zje (Zci (Zcz ZeF ZeF Ze (pv 1) (Zby (v:=.int 12) rfl T.m_MOST_FILLED ⟨_,rfl⟩)))))) (Zg (Zbo rfl rfl T.c_TooMany T.x_TooMany (Za (Za0 (Zab (by decide) (Zcl (Zby (v:=.int 12) rfl T.m_MOST_FILLED ⟨_,rfl⟩) (Zab (by decide) (Zcl (Zby (v:=.int 12) rfl T.m_MOST_FILLED ⟨_,rfl⟩) Zdv))))) Zc) Zb1)) ZC)),?_⟩
 walk_at "rd"
 rw[Yb (by omega),Yc (by omega),Yb (by omega)]
 exact k1
theorem ok_span_ways {f:Addr}{fd:FuncData} (F:Fun K "span_ways" "span_ways" s_span_ways f fd) (ZcW:Callee P w K mg base "from_below" 5 ["tree"] (sp_from_below K mg)) (ZA:Callee P w K mg base "running_sums" 1 ["numbers"] (sp_running_sums K mg)) (T:Txt K mg):FnOk P w K mg base (CXE P w) 6 f fd ["tree","young","m"] (sp_span_ways K mg):=by
 refine F.okX sc_span_ways (λvs H Q E h=>?_) (λcdv A outer s H vs Q E hr h=>?_)
 ·obtain⟨t,y,T,m,rfl,_⟩:=h;rfl
 obtain⟨t,y,T',m,rfl,ht,hy,hG,hl,hm,hTb,k1⟩:=h
 refine⟨_,(Zd (Zm (i:=3) sc_span_ways.nd rfl (Or.inr rfl) (ZoY Zjd (Zq ZcL (ZX (Za Ze Zc)) (Zq ZaX (pv 2) Ze))))
   (Zd (Z3 (Zae PassesOwn.never rfl (Zbf (Zj ZcW (hr.mono (by decide)) rfl Zn (Za (pv 0) Zc))) (Zl (i:=4) sc_span_ways.nd rfl (Or.inl rfl)) (Zd (Zcj (ZM Zu (pv 1) (pv 4) (λ_ _=>rfl)) (pg_lst (K:=K) rfl (n:=2) rfl (ZE (Zl (i:=5) sc_span_ways.nd rfl (Or.inr rfl)) (ZE (Zl (i:=6) sc_span_ways.nd rfl (Or.inr rfl)) Za2))))
   (Zd (Zfy (i:=7) ["number","ways","ahead","behind"] [none,some 3,some 5,some 6] sc_span_ways.nd rfl (Or.inl rfl) rfl rfl rfl (Zmv rfl T.b_reversed (Za (Zf4 rfl T.b_range (Za (pv 2) Zc)) Zc)) (λ_ _ _ _ _=>(Zl (i:=0) (show(["number","ways","ahead","behind"]:List Str).Nodup from by decide +kernel) rfl (Or.inl rfl))) (λ_ _ _ _ _=>ZaE) (λ_ _ _ _ _=>(Zq Zai (ZM (r:=rIxL K) Zu (ZfG (pv 1) (pv 2) (λ_ _=>rfl)) (Zq ZaX (pv 0) Ze) (λ_ _=>rfl)) (ZM (r:=rIxL K) Zu (ZfG (pv 1) (pv 3) (λ_ _=>rfl)) (pv 0) (λ_ _=>rfl)))) ZQ)
   (Zg (ZoW (pv 3) (pv 4) (Zev (K:=K) rfl (Zq Zhr (ZX (Za Ze Zc)) (Zj ZA (hr.mono (by decide)) rfl Zn (Za (pv 7) Zc))) (Zbm ZaC Ze)) rfl))))))
   (Zg (Zs (pv 3))))),?_⟩
 obtain⟨h40,nsT,hT⟩:=id hG
 refine Zah (fun σ Hx=>∃d:Addr,σ=[some (.ref t),some (.ref y),some (.int m),some (.ref d),none,none,none,none]/\H d=none/\WaysAt Hx d 1 m (λ_ _=>0) (λ_=>False)/\Zf H Hx) (λR hR=>?_) ?_
 ·walk_at "rd"
  refine λd hd=>⟨by decide,λp1 h1=>⟨_,Zb,by omega,by omega,?_,λp2 h2=>⟨?_,none,.ref p2,rfl,hR _ _ ⟨d,rfl,hd,⟨_,Zb,Yd 1,⟨p2,rfl,?_⟩,λp z=>z.elim⟩,?_⟩⟩⟩⟩
  ·exact Yf (show _<=1000 by simp;omega) (by decide)
  ·exact((Zf.refl _).ZJ h2) _ _ (((Zf.refl _).ZJ h1) _ _ Zb)
  ·rw[Zh (λz=>by rw[z]at h2;rw[((Zf.refl _).ZJ h1) _ _ Zb]at h2;cases h2),Zb]
   congr 1
   unfold wayL
   rw[show((m:Int)+1).toNat=m+1 by omega]
   congr 1
   refine List.ext_getElem (by simp) λj j1 j2=>?_
   simp
  ·exact((((Zf.refl H).upd hd).ZJ h1).ZJ h2).upd hd
 rintro σ H1 ⟨d,rfl,zd,hW,s1⟩
 walk_at "rd"
 refine⟨t,T',rfl,s1.Zbp ht,hG,ZbA.same hTb s1,λl ps H2 zl s2 hpm hpw hl2=>⟨l,rfl,⟨_,SqL.of hl2⟩,?_⟩⟩
 have elp:ps.length=T'.length:=by rw[hpm.length_eq];simp[nats]
 have s12:=s1.trans s2
 have ndp:ps.Nodup:=hpm.nodup_iff.mpr (by unfold nats;exact List.pairwise_map.mpr (List.nodup_range.imp λh e=>h (by omega)))
 refine ZcR (n:=ps.length) (λi σ Hx=>∃(c:Nat->Nat->Nat) (v4 v5 v6 v7:Option V),σ=[some (.ref t),some (.ref y),some (.int m),some (.ref d),v4,v5,v6,v7]/\WaysAt Hx d (i+1) m c (λp=>∃k,k<i/\ps[k]?=some (p:Int))/\(∀p:Nat,(∃k,k<i/\ps[k]?=some (p:Int))->WayP T' m c (λp=>∃k,k<i/\ps[k]?=some (p:Int)) p)/\Hx l=some (.lst (ps.map V.int))/\Zf H Hx) ⟨λ_ _=>0,none,none,none,none,rfl,?_,(λp ⟨k,hk,_⟩=>absurd hk (by omega)),hl2,s12⟩ (λi σ Hx hi ⟨_,_,_,_,_,_,_,_,h,_⟩=>⟨_,_,SqL.of h,nthV hi⟩) (fun σ Hx ⟨_,_,_,_,_,_,_,_,h,_⟩=>⟨_,SqL.of h,by rw[Yi];exact Yd _⟩) ?_ ?_
 ·obtain⟨kvs,w1,w0,⟨l0,w2,w3⟩,_⟩:=hW
  exact⟨kvs,s2 _ _ w1,w0,⟨l0,w2,s2 _ _ w3⟩,λp ⟨k,hk,_⟩=>absurd hk (by omega)⟩
 ·rintro i x σ Hx Hx' hi ⟨c,v4,v5,v6,v7,rfl,hWx,hC,hlx,sx⟩ ⟨rfl,hx⟩
  have e1:=hx _ (SqL.of hlx)
  rw[nthV hi]at e1
  cases e1
  have hpi:ps[i]?=some (nth ps i):=by unfold nth;rw[Yg,Yh hi];rfl
  have mq:=hpm.mem_iff.mp (nth_mem hi)
  unfold nats at mq
  obtain⟨v,hv,ev⟩:=YG.mp mq
  have hv2:v<T'.length:=by have:=YC.mp hv;omega
  rw[<-ev]at hpi⊢
  have hnP:¬ ∃k,k<i/\ps[k]?=some (v:Int):=λ⟨k,hk,ek⟩=>by
   obtain⟨a1,a2⟩:=Yr.mp ek
   obtain⟨b1,b2⟩:=Yr.mp hpi
   exact List.pairwise_iff_getElem.mp ndp k i a1 b1 hk (a2.trans b2.symm)
  obtain⟨as,y1,y2,y3⟩:=id hy
  obtain⟨a,ha⟩:∃a,as[v]?=some a:=⟨_,Yh (by omega)⟩
  obtain⟨ah,bh,hA,hB,hab⟩:=y3 v a ha
  have hAp:∀q,ah=some q->∃k,k<i/\ps[k]?=some (q:Int):=λq e=>by
   subst e;exact kid_first hT hpm hpw hA.2.1 hA.2.2 hpi
  have hBp:∀q,bh=some q->∃k,k<i/\ps[k]?=some (q:Int):=λq e=>by
   subst e;exact kid_first hT hpm hpw hB.2.1 hB.2.2 hpi
  clear mq hx ev hv
  refine Zah (fun σ Hy=>σ=[some (.ref t),some (.ref y),some (.int m),some (.ref d),some (.int v),some (optN ah),some (optN bh),v7]/\Hy=Hx') (λR hR=>?_) ?_
  ·walk_at "rd"
   exact⟨_,SqL.of (sx _ _ y1),V.ref a,Zb0 (by rw[YE,ha];rfl),a,rfl,_,SqL.of (sx _ _ hab),rfl,_,_,rfl,_,_,rfl,rfl,hR _ _ ⟨rfl,rfl⟩⟩
  rintro σ Hy ⟨rfl,rfl⟩
  have hcol:∀(o:Option Nat),(∀q,o=some q->∃k,k<i/\ps[k]?=some (q:Int))->∀Hz,Zf Hy Hz->∃(kvs:List (KO×V)) (k:KO) (b:Addr),Hz d=some (.ext (Zdn d kvs))/\optN o=oV k/\Zag kvs k=some (.ref b)/\Hz b=some (.lst (wayL m (cOf c o))):=λo ho Hz s=>by
   obtain⟨kvs,w1,_,⟨l0,w2,w3⟩,w4⟩:=id hWx
   cases o with
   |none=>exact⟨kvs,none,l0,s _ _ w1,rfl,w2,s _ _ w3⟩
   |some q =>
    obtain⟨b,b1,b2⟩:=w4 q (ho q rfl)
    exact⟨kvs,some (q:Int),b,s _ _ w1,rfl,b1,s _ _ b2⟩
  refine Zah (fun σ Hz=>∃e:Addr,σ=[some (.ref t),some (.ref y),some (.int m),some (.ref d),some (.int v),some (optN ah),some (optN bh),some (.ref e)]/\Hz e=some (.lst ((eachL (cOf c ah) (cOf c bh) m).map V.int))/\Zf Hy Hz) (λR hR=>?_) ?_
  ·walk_at "rd"
   refine⟨by omega,by omega,λp hp=>⟨0,m,Zb,by decide,by decide,by omega,by omega,?_⟩⟩
   rw[show((m:Int)-0).toNat=m by omega]
   have g:=(Zf.refl Hy).upd (o:=.rng 0 (m:Int)) hp
   have hbits:∀o:Option Nat,(∀q,o=some q->∃k,k<i/\ps[k]?=some (q:Int))->∀j,j<=m->cOf c o j<2 ^ 100000:=λo ho j hj=>by
    cases o with
    |none=>exact Nat.one_lt_two_pow (n:=100000) (by decide)
    |some q =>
     have:=way_bits hT hm (P:=λp=>∃k,k<i/\ps[k]?=some (p:Int)) (λp hp=>⟨by
      obtain⟨k,_,ek⟩:=hp
      have:=hpm.mem_iff.mp (List.mem_of_getElem? ek)
      unfold nats at this
      obtain⟨z,hz,ez⟩:=YG.mp this
      have:=YC.mp hz
      omega,hC p hp⟩) 12 q (ho q rfl) (by omega) j hj
     exact Yu this (Nat.pow_le_pow_right (by decide) (bitF_le 12 (by decide)))
   refine comp_map (n:=m) (λk=>V.int ((cOf c ah (m-k)*cOf c bh (m-1-k):Nat):Int)) (Ys (show _<=1000 by omega) (by decide)) (λj Hz s hj=>hj) (λHz s=>Yd _) ?_ ?_
   ·rintro k x Hz Hw hk s ⟨rfl,rfl⟩
    rw[show((0:Int)+(m:Int)-1-(k:Int))=((m-1-k:Nat):Int) by omega]
    walk_at "rd"
    obtain⟨kvs1,k1',b1,u1,u2,u3,u4⟩:=hcol ah hAp Hw (g.trans s)
    obtain⟨kvs2,k2',b2,u5,u6,u7,u8⟩:=hcol bh hBp Hw (g.trans s)
    refine⟨_,u1,_,u2,_,u3,b1,rfl,_,SqL.of u4,_,by rw[show(((m-1-k:Nat):Int)+1)=((m-k:Nat):Int) by omega];exact wayL_at (by omega),_,u5,_,u6,_,u7,b2,rfl,_,SqL.of u8,_,wayL_at (by omega),_,rfl,_,rfl,mulBig (hbits ah hAp _ (by omega)) (hbits bh hBp _ (by omega)),CW.next hk (by rw[Int.natCast_mul]) s⟩
   ·intro l2 Hz s hl2
    have e1:(List.range m).map (λk=>V.int ((cOf c ah (m-k)*cOf c bh (m-1-k):Nat):Int))=(eachL (cOf c ah) (cOf c bh) m).map V.int:=by simp[eachL,Function.comp_def]
    exact hR _ _ ⟨l2,rfl,by rw[Zb,e1],(g.trans s).ZJ hl2⟩
  rintro σ Hz ⟨e,rfl,he,sz⟩
  walk_at "rd"
  refine⟨by decide,λp hp=>⟨e,eachL (cOf c ah) (cOf c bh) m,rfl,SqL.of (((Zf.refl Hz).upd hp) _ _ he),by simp[eachL];omega,λl2 H2' s2' hl2'=>⟨l2,rfl,_,s2' _ _ Zb,_,hl2',?_,λp2 hp2=>⟨_,SqL.of Zb,λp3 hp3=>?_⟩⟩⟩⟩
  ·rw[Yi,ZaU]
   exact Yf (show _<=1000 by simp[eachL];omega) (by decide)
  have eR:([V.int 0]++(Zv 0 (eachL (cOf c ah) (cOf c bh) m)).map V.int).reverse=wayL m λj=>colS (cOf c ah) (cOf c bh) m (m-j):=by
   rw[<-wayL_of,List.map_reverse];rfl
  rw[eR]at *
  have sA:=((((sz.ZJ (o:=.lst [V.int 0]) hp).trans s2').ZJ (o:=.lst ([V.int 0]++(Zv 0 (eachL (cOf c ah) (cOf c bh) m)).map V.int)) hp2).ZJ (o:=.lst (wayL m λj=>colS (cOf c ah) (cOf c bh) m (m-j))) hp3)
  have h3:=Zb (H:=upd H2' p2 (.lst ([V.int 0]++(Zv 0 (eachL (cOf c ah) (cOf c bh) m)).map V.int))) (a:=p3) (o:=.lst (wayL m λj=>colS (cOf c ah) (cOf c bh) m (m-j)))
  generalize upd (upd H2' p2 (.lst ([V.int 0]++(Zv 0 (eachL (cOf c ah) (cOf c bh) m)).map V.int))) p3 (.lst (wayL m λj=>colS (cOf c ah) (cOf c bh) m (m-j)))=Hc at sA h3⊢
  obtain⟨kvs,w1,w0,⟨l0,w2,w3⟩,w4⟩:=id hWx
  have split:∀p:Nat,(∃k,k<i+1/\ps[k]?=some (p:Int))->(∃k,k<i/\ps[k]?=some (p:Int))\/p=v:=λp ⟨k,hk,ek⟩=>by
   by_cases z:k=i
   ·subst z;rw[hpi]at ek;exact .inr (by have:=Yy ek;omega)
   ·exact .inl ⟨k,by omega,ek⟩
  have up:∀p:Nat,(∃k,k<i/\ps[k]?=some (p:Int))->∃k,k<i+1/\ps[k]?=some (p:Int):=λp ⟨k,hk,ek⟩=>⟨k,by omega,ek⟩
  refine⟨kvs,sA _ _ w1,some (v:Int),rfl,Ys (show _<=1000 by omega) (by decide),setC c v λj=>colS (cOf c ah) (cOf c bh) m (m-j),?_,λp hp2=>?_,?_,(sx.trans sA).upd zd⟩
  ·exact WaysAt.put (sA _ _ w1) w0 ⟨l0,w2,sA _ _ w3⟩ (λp hp=>let ⟨l,a1,a2⟩:=w4 p hp;⟨l,a1,sA _ _ a2⟩) h3 hnP split
  ·by_cases z:p=v
   ·subst z
    exact WayP.new hA hB hAp hBp hnP up
   ·exact(hC p ((split p hp2).resolve_right z)).keep z hnP up
  ·have hlc:=sA _ _ hlx
   rw[Zh (λz=>by rw[z,sA _ _ w1]at hlc;cases hlc)]
   exact hlc
 ·rintro σ Hx ⟨c,v4,v5,v6,v7,rfl,hWx,hC,hlx,sx⟩
  walk_at "rd"
  have hall:∀p:Nat,p<T'.length->∃k,k<ps.length/\ps[k]?=some (p:Int):=λp hp=>by
   have hm:(p:Int)∈ps:=hpm.mem_iff.mpr (YG.mpr ⟨p,YC.mpr (by omega),rfl⟩)
   obtain⟨k,hk,ek⟩:=Y1 hm
   exact⟨k,hk,by rw[Yh hk,ek]⟩
  refine k1 d c Hx zd sx (λp hp=>?_) ?_
  ·obtain⟨ah,bh,h1,h2,_,_,h5⟩:=hC p (hall p hp)
   exact⟨ah,bh,h1,h2,h5⟩
  ·obtain⟨kvs,w1,w0,w2,w3⟩:=hWx
   exact⟨kvs,w1,by omega,w2,λp hp=>w3 p (hall p hp)⟩
theorem outL_at {m j:Nat}{g:Nat->Nat} (h:j<m):atI (outL m g) (j:Int)=some (V.int ((g j:Nat):Int)):=Zb0 (by simp[outL,h])
theorem outL_len (m:Nat) (g:Nat->Nat):(outL m g).length=m:=by simp[outL]
theorem row_at_v {r:List Nat}{j:Nat} (h:j<r.length):atI (rowV r) (j:Int)=some (V.int ((fnR r j:Nat):Int)):=Zb0 (by simp[rowV,fnR,Yg,h])
theorem fnR_lt {r:List Nat}{m j:Nat} (hr:∀i∈r,i<m) (h:j<r.length):fnR r j<m:=by
 have e:fnR r j=r[j]:=by simp[fnR,Yg,h]
 rw[e];exact hr _ (YF h)
theorem exc_refl {p:Addr}{H:Hp}:Exc p H H:=λ_ _ _ z=>z
theorem exc_trans {p:Addr}{H H1 H2:Hp} (a:Exc p H H1) (b:Exc p H1 H2):Exc p H H2:=λd o n z=>b d o n (a d o n z)
theorem ones_out {m:Nat}{g:Nat->Nat} (h:∀j,g j=1):(List.replicate ((m:Nat):Int).toNat [V.int 1]).flatten=outL m g:=by
 rw[show((m:Nat):Int).toNat=m by omega]
 refine List.ext_getElem (by simp[outL]) λj j1 j2=>?_
 have e1:(List.replicate m [V.int 1]).flatten=List.replicate m (V.int 1):=by simp
 simp only[e1,List.getElem_replicate]
 simp[outL,h]
theorem sums_out {m:Nat} (h:0<m) (g:Nat->Nat):[V.int 0]++ZbW ((Zv 0 ((List.range m).map λj=>((g j:Nat):Int))).map V.int) none (some (-1))=outL m (sumTo g):=by
 rw[(sums_rng g m).1,Zhx]
 refine List.ext_getElem (by simp[outL];omega) λj j1 j2=>?_
 cases j with
 |zero=>simp[outL,sumTo]
 |succ j=>simp[outL]
theorem least_out {m x v:Nat} (h:x<=m):(List.replicate ((x:Nat):Int).toNat [V.int 0]).flatten++(List.replicate ((m:Int)-(x:Int)).toNat [V.int (v:Int)]).flatten=outL m (λy=>if y<x then 0 else v):=by
 rw[show((x:Nat):Int).toNat=x by omega,show((m:Int)-(x:Int)).toNat=m-x by omega]
 have e1:(List.replicate x [V.int 0]).flatten=List.replicate x (V.int 0):=by simp
 have e2:(List.replicate (m-x) [V.int (v:Int)]).flatten=List.replicate (m-x) (V.int (v:Int)):=by simp
 rw[e1,e2]
 refine List.ext_getElem (by simp[outL];omega) λj j1 j2=>?_
 by_cases z:j<x
 ·rw[Y8 (by simpa using z)]
  simp[outL,z]
 ·rw[Jb (by simp;omega)]
  simp[outL,z]
theorem ok_Filling_outside_ways {f:Addr}{fd:FuncData}{n:Nat} (F:Fun K "outside_ways" "Filling.outside_ways" s_Filling_outside_ways f fd) (GM_Filling_outside_by_elder:Zad P w K mg base "Filling" "outside_by_elder" (2+n) ["self","place","elder"] (sp_Filling_outside_by_elder_R n K mg)) (T:Txt K mg):FnOk P w K mg base (CXE P w) (2+n+1) f fd ["self","place"] (sp_Filling_outside_ways_R (n+1) K mg):=by
 refine F.okX sc_Filling_outside_ways (λvs H Q E h=>?_) (λcdv A outer s H vs Q E hr h=>?_)
 ·obtain⟨a,T,m,c,r,p,rfl,_⟩:=h;rfl
 obtain⟨a,T',m,c,r,p,rfl,hF,hG,hp,hU,hn,k1⟩:=h
 refine⟨_,(Zd (Z9 (pt_cmp (Znl (Zn6 hr) (pv 1) (Z0 (K:=K) rfl T.cl_Filling T.n_Filling_outsides (pv 0)))) (Zg (ZqB (Zn6 hr) (Z0 (K:=K) rfl T.cl_Filling T.n_Filling_outsides (pv 0)) (pv 1) (ZdA (mg:=mg) rfl GM_Filling_outside_by_elder (hr.mono (by omega)) Zn (pv 0) (Za (pv 1) (Za (ZM Zhq (Z0 (K:=K) rfl T.cl_Filling T.n_Filling_tree (pv 0)) (pv 1) (λ_ _=>rfl)) Zc))) rfl)) ZC)
   (Zg (Zs (ZqA (Zn6 hr) (Z0 (K:=K) rfl T.cl_Filling T.n_Filling_outsides (pv 0)) (pv 1) (λ_ _=>rfl))))),?_⟩
 obtain⟨n,rfl⟩:∃n',n=n'+1:=⟨n-1,by omega⟩
 obtain⟨dx,fs,kvs,h1,⟨f1,f2,f3,f4,f5,f6,f7,f8,f9,f10,f11⟩,h3,h4,h5,h6,h7,h8⟩:=hF.1
 have x1:=strip_sub _ _ h1
 have o1:=strip_sub _ _ h6
 walk_at "rd"
 refine⟨dx,fs,x1,_,f5,_,rfl,_,ZkB.k o1 (k:=.inl (p:Int)),Z2 (λz=>?_) λz=>?_⟩
 ·refine⟨dx,fs,x1,f9,dx,fs,x1,_,f1,_,rfl,_,tupH_sq (tupH_same h3 strip_sub),_,Zb0 (nthV hp),a,T',m,c,r,p,rfl,hF,hG,hp,hU,by omega,λl H1 e1 hF1 hl=>?_⟩
  obtain⟨dx1,fs1,kvs1,g1,⟨j1,j2,j3,j4,j5,j6,j7,j8,j9,j10,j11⟩,g3,g4,g5,g6,g7,g8⟩:=id hF1.1
  have x2:=strip_sub _ _ g1
  have o2:=strip_sub _ _ g6
  have nor:a.o≠a.rl:=λz=>by rw[z,ZcO]at g6;cases g6
  have hlen:kvs1.length<sizeLine:=Ys (Yf g7 (Yf (cntK_le _ _) hG.2.1)) (by decide)
  have nx:a.x≠a.o:=λz=>by rw[z,o2]at x2;cases x2
  have hF2:FillR mg (upd H1 a.o (.dK (putK kvs1 (.inl (p:Int)) (.ref l)))) a T' m c r:=⟨by rw[strip_upd nor];exact fillS_put hF1.1 g6 hp hU hl,by rw[Zh (λz=>nor z.symm)];exact hF1.2⟩
  refine⟨dx1,fs1,x2,_,j5,_,rfl,_,.inl ⟨kvs1,.inl (p:Int),o2,rfl,hlen,rfl⟩,dx1,fs1,by rw[Zh nx];exact x2,_,j5,_,rfl,_,.inl ⟨_,.inl (p:Int),.inl Zb,rfl,by rw[ZbR,Yc rfl]⟩,k1 l _ (exc_trans e1 λb u n z=>by rw[Zh n];exact z) hF2 ?_⟩
  rw[strip_upd nor,Zh (λz=>by rw[z,g6]at hl;cases hl)]
  exact hl
 ·cases e:Zag kvs (.inl (p:Int))with
  |none=>rw[e]at z;exact absurd rfl z
  |some v =>
   obtain⟨a1,l,rfl,a3⟩:=h8 p hp v e
   exact⟨dx,fs,x1,_,f5,_,rfl,_,.inl ⟨kvs,.inl (p:Int),.inl o1,rfl,e.symm⟩,k1 l H exc_refl hF a3⟩
theorem ok_Filling_outside_by_elder {f:Addr}{fd:FuncData}{n:Nat} (F:Fun K "outside_by_elder" "Filling.outside_by_elder" s_Filling_outside_by_elder f fd) (ZA:Callee P w K mg base "running_sums" 1 ["numbers"] (sp_running_sums K mg)) (GM_Filling_outside_ways:Zad P w K mg base "Filling" "outside_ways" (2+n) ["self","place"] (sp_Filling_outside_ways_R n K mg)) (GM_Filling_onward_ways:Zad P w K mg base "Filling" "onward_ways" (2+n) ["self","place"] (sp_Filling_onward_ways_R n K mg)) (T:Txt K mg):FnOk P w K mg base (CXE P w) (2+n+1) f fd ["self","place","elder"] (sp_Filling_outside_by_elder_R (n+1) K mg):=by
 refine F.okX sc_Filling_outside_by_elder (λvs H Q E h=>?_) (λcdv A outer s H vs Q E hr h=>?_)
 ·obtain⟨a,T,m,c,r,p,rfl,_⟩:=h;rfl
 obtain⟨a,T',m,c,r,p,rfl,hF,hG,hp,hU,hn,k1⟩:=h
 refine⟨_,(Zd (Z9 (Zx Zgr (pv 2) (Zbm ZaC Ze) (Zz _)) (Zg (Zs (Zq ZcL (ZX (Za Ze Zc)) (Z0 (K:=K) rfl T.cl_Filling T.n_Filling_most (pv 0))))) ZC)
   (Zd (Z9 (Zx ZbY (pv 2) (pv 1) (Zz _)) (Zg (Zs (Zq Zhr (ZX (Za Ze Zc)) (ZbP ZcK (Zj ZA (hr.mono (by omega)) rfl Zn (Za (ZdA (mg:=mg) rfl GM_Filling_onward_ways (hr.mono (by omega)) Zn (pv 0) (Za (pv 2) Zc)) Zc)) Zer (ZbZ (Zbm ZaC Ze)))))) ZC)
   (Zd (Zm (i:=3) sc_Filling_outside_by_elder.nd rfl (Or.inl rfl) (ZM Zu (Z0 (K:=K) rfl T.cl_Filling T.n_Filling_row (pv 0)) (pv 2) (λ_ _=>rfl)))
   (Zg (Zs (Zq Zhr (Zq ZcL (ZX (Za Ze Zc)) (pv 3)) (Zq ZcL (ZX (Za (ZM Zu (ZdA (mg:=mg) rfl GM_Filling_outside_ways (hr.mono (by omega)) Zn (pv 0) (Za (pv 2) Zc)) (pv 3) (λ_ _=>rfl)) Zc)) (Zq Zbd (Z0 (K:=K) rfl T.cl_Filling T.n_Filling_most (pv 0)) (pv 3))))))))),?_⟩
 obtain⟨dx,fs,kvs,h1,⟨f1,f2,f3,f4,f5,f6,f7,f8,f9,f10,f11⟩,h3,h4,h5,h6,h7,h8⟩:=id hF.1
 obtain⟨hGT,hl12,hm0,hm12,hW,hrm,hrl⟩:=id hG
 obtain⟨_,ns,hT⟩:=id hGT
 have eN:=hT.1
 have x1:=strip_sub _ _ h1
 have rl1:=hF.2
 have fresh:∀{b:Addr},H b=none->b≠a.rl:=λ{b} z y=>by rw[y,rl1]at z;cases z
 walk_at "rd"
 refine Z2 (λz=>?_) λz=>Z2 (λz2=>?_) λz2=>?_
 ·refine⟨by decide,λb hb=>?_⟩
  have g:=(Zf.refl H).upd (o:=.lst [V.int 1]) hb
  refine⟨dx,fs,g _ _ x1,_,f2,_,rfl,_,Zb,by omega,by omega,?_,λb1 hb1=>?_⟩
  ·exact Yf (show _<=1000 by simp;omega) (by decide)
  ·have g2:=g.ZJ (o:=.lst (List.replicate ((m:Nat):Int).toNat [V.int 1]).flatten) hb1
   refine k1 b1 _ g2.Zgx (fillR_same hF g2) ?_
   rw[Zao (fresh (g.free hb1)),Zb,ones_out (λj=>oW_top hT hp z)]
 ·rcases way_step hT hp with⟨y,_⟩|⟨e,ye,he,yw⟩
  ·exact absurd y z
  have hpe:p<e:=by omega
  rw[ye]
  refine⟨by decide,λb hb=>?_⟩
  have g:=(Zf.refl H).upd (o:=.lst [V.int 0]) hb
  have hbr:=fresh hb
  refine⟨dx,fs,g _ _ x1,f10,?_⟩
  obtain⟨n,rfl⟩:∃n',n=n'+1:=⟨n-1,by rw[yw,Yn]at hn;omega⟩
  refine⟨a,T',m,c,r,e,rfl,fillR_same hF g,hG,he,hU.up hT hp ye,by rw[yw,Yn]at hn;omega,λl H1 e1 hF1 hl=>?_⟩
  have nbo:b≠a.o:=λy=>by rw[y,strip_sub _ _ h6]at hb;cases hb
  have hb1:=e1 _ _ nbo (Zb (H:=H) (a:=b) (o:=.lst [V.int 0]))
  refine⟨l,(List.range m).map (λj=>((nW T' c (fnR r) e j:Nat):Int)),rfl,SqL.of (by rw[<-outInts];exact strip_sub _ _ hl),by simp;omega,λl2 H2 s2 hl2=>⟨l2,rfl,_,SqL.of hl2,λb2 hb2=>?_⟩⟩
  have g2:=s2.ZJ (o:=.lst (ZbW ((Zv 0 ((List.range m).map λj=>((nW T' c (fnR r) e j:Nat):Int))).map V.int) none (some (-1)))) hb2
  refine⟨_,g2 _ _ hb1,_,Zb,?_,λb3 hb3=>?_⟩
  ·refine Yf (show _<=1000 from ?_) (by decide)
   have:=Zgt ((Zv 0 ((List.range m).map λj=>((nW T' c (fnR r) e j:Nat):Int))).map V.int) none (some (-1))
   rw[Yi,ZaU,Yi,Y4]at this
   simp only[Yn,List.length_nil];omega
  ·have g3:=g2.ZJ (o:=.lst ([V.int 0]++ZbW ((Zv 0 ((List.range m).map λj=>((nW T' c (fnR r) e j:Nat):Int))).map V.int) none (some (-1)))) hb3
   refine k1 b3 _ (exc_trans (exc_trans g.Zgx e1) g3.Zgx) (fillR_same hF1 g3) ?_
   rw[Zao (λy=>by rw[y,g2 _ _ hF1.2]at hb3;cases hb3),Zb,sums_out hm0]
   congr 2
   exact congrArg (outL m) (funext λx=>(oW_left hT hp ye hpe).symm)
 ·rcases way_step hT hp with⟨y,_⟩|⟨e,ye,he,yw⟩
  ·exact absurd y z
  rw[ye]
  have npe:e≠p:=λy=>by
   subst y
   have:=(way_nd hT _ e hp (Yd _)).2
   rw[yw]at this
   exact this (by simp)
  have hep:e<p:=by omega
  have her:=hU p (by simp) e ye hep
  have hrem:=fnR_lt hrm her
  obtain⟨n,rfl⟩:∃n',n=n'+1:=⟨n-1,by rw[yw,Yn]at hn;omega⟩
  refine⟨dx,fs,x1,_,f6,_,rfl,_,SqL.of rl1,_,row_at_v her,by decide,λb hb=>⟨_,rfl,_,Zb,by omega,by omega,?_,λb1 hb1=>?_⟩⟩
  ·exact Yf (show _<=1000 by simp;omega) (by decide)
  have g:=(Zf.refl H).upd (o:=.lst [V.int 0]) hb
  have g1:=g.ZJ (o:=.lst (List.replicate ((fnR r e:Nat):Int).toNat [V.int 0]).flatten) hb1
  refine⟨dx,fs,g1 _ _ x1,f8,a,T',m,c,r,e,rfl,fillR_same hF g1,hG,he,hU.up hT hp ye,by rw[yw,Yn]at hn;omega,λl H1 e1 hF1 hl=>⟨l,rfl,_,_,rfl,SqL.of (strip_sub _ _ hl),_,outL_at hrem,by decide,λb2 hb2=>?_⟩⟩
  have nbo:b1≠a.o:=λy=>by rw[y,g _ _ (strip_sub _ _ h6)]at hb1;cases hb1
  have hc1:=e1 _ _ nbo (Zb (H:=upd H b (.lst [V.int 0])) (a:=b1) (o:=.lst (List.replicate ((fnR r e:Nat):Int).toNat [V.int 0]).flatten))
  have xx:=hF1
  obtain⟨⟨dx1,fs1,kvs1,i1,⟨_,j2,_⟩,_⟩,rl2⟩:=xx
  have g2:=(Zf.refl H1).upd (o:=.lst [V.int ((oW T' c (fnR r) e (fnR r e):Nat):Int)]) hb2
  refine⟨dx1,fs1,g2 _ _ (strip_sub _ _ i1),_,j2,_,rfl,_,rfl,_,Zb,by omega,by omega,?_,λb3 hb3=>?_⟩
  ·exact Yf (show _<=1000 by simp;omega) (by decide)
  have g3:=g2.ZJ (o:=.lst (List.replicate ((m:Int)-((fnR r e:Nat):Int)).toNat [V.int ((oW T' c (fnR r) e (fnR r e):Nat):Int)]).flatten) hb3
  refine⟨_,g3 _ _ hc1,_,Zb,?_,λb4 hb4=>?_⟩
  ·exact Yf (show _<=1000 by simp;omega) (by decide)
  have g4:=g3.ZJ (o:=.lst ((List.replicate ((fnR r e:Nat):Int).toNat [V.int 0]).flatten++(List.replicate ((m:Int)-((fnR r e:Nat):Int)).toNat [V.int ((oW T' c (fnR r) e (fnR r e):Nat):Int)]).flatten)) hb4
  refine k1 b4 _ (exc_trans (exc_trans g1.Zgx e1) g4.Zgx) (fillR_same hF1 g4) ?_
  rw[Zao (λy=>by rw[y,g3 _ _ rl2]at hb4;cases hb4),Zb,least_out (by omega)]
  congr 2
  exact congrArg (outL m) (funext λx=>(oW_right hT hp ye (by omega)).symm)
theorem sumTo_le {g:Nat->Nat}{M:Nat}:∀x,(∀y,y<x->g y<=M)->sumTo g x<=x*M
 |0,_=>Ym _
 |x+1,h=>by
  have h1:=sumTo_le x λy hy=>h y (by omega)
  have h2:=h x (by omega)
  show sumTo g x+g x<=(x+1)*M
  rw[Nat.add_mul,Nat.one_mul];omega
theorem oW_le {ns T:List Int} (hT:Zi ns T) {c:Nat->Nat->Nat}{f:Nat->Nat}{m B X:Nat} (hm:m<=12) (hf:∀e,f e<=m) (hX:12*B<=X) (hX1:1<=X) (hc:∀p j,p<T.length->j<=m->cOf c (kidB T p) j<=B):∀d p x,p<T.length->(way T p).length<=d->x<=m->oW T c f p x<=X ^ d:=by
 intro d
 induction d with
 |zero =>
  intro p x hp hd hx
  rcases way_step hT hp with⟨z,_⟩|⟨q,z,hq,zw⟩
  ·rw[oW_top hT hp z];exact Yd _
  ·rw[zw]at hd;simp at hd
 |succ d ih =>
  intro p x hp hd hx
  have h1:1<=X ^ (d+1):=Nat.pow_le_pow_left hX1 (d+1) |> Yf (by rw[Nat.one_pow];exact Yd 1)
  rcases way_step hT hp with⟨z,_⟩|⟨q,z,hq,zw⟩
  ·rw[oW_top hT hp z];exact h1
  ·have hd2:(way T q).length<=d:=by rw[zw,Yn]at hd;omega
   have hs:X ^ d<=X ^ (d+1):=Nat.pow_le_pow_right hX1 (by omega)
   by_cases hl:p<q
   ·rw[oW_left hT hp z hl]
    refine Yf (sumTo_le (M:=X ^ d*B) x λy hy=>Nat.mul_le_mul (ih q y hq hd2 (by omega)) (hc q y hq (by omega))) ?_
    rw[Nat.pow_succ]
    refine Yf (Nat.mul_le_mul_right _ (show x<=12 by omega)) ?_
    rw[Nat.mul_left_comm]
    exact Nat.mul_le_mul_left _ hX
   ·rw[oW_right hT hp z (by omega)]
    split
    ·omega
    ·exact Yf (ih q _ hq hd2 (hf q)) hs
theorem c_bits {ns T:List Int}{m:Nat}{c:Nat->Nat->Nat} (hT:Zi ns T) (hm:m<=12) (hl:T.length<=12) (hW:WaysIs T m c) (p j:Nat) (hj:j<=m):cOf c (kidB T p) j<2 ^ 20476:=by
 cases e:kidB T p with
 |none=>exact Nat.one_lt_two_pow (n:=20476) (by decide)
 |some q =>
  have:=way_bits hT hm (P:=λp=>p<T.length) (λp hp=>⟨hp,by
   obtain⟨a,b,x1,x2,x3⟩:=hW p hp
   exact⟨a,b,x1,x2,(λq e=>by subst e;exact x1.2.1),(λq e=>by subst e;exact x2.2.1),x3⟩⟩) 12 q (kidB_some e).2.1 (by omega) j hj
  exact Yu this (Nat.pow_le_pow_right (by decide) (show bitF 12<=20476 by decide))
theorem oW_ok {ns T:List Int}{m:Nat}{c:Nat->Nat->Nat}{f:Nat->Nat} (hT:Zi ns T) (hm:m<=12) (hl:T.length<=12) (hW:WaysIs T m c) (hf:∀e,f e<=m) {p x:Nat} (hp:p<T.length) (hx:x<=m):IntMulOk ((oW T c f p x:Nat):Int) ((cOf c (kidB T p) x:Nat):Int):=by
 have h1:=oW_le hT (c:=c) (f:=f) (B:=2 ^ 20476) (X:=2 ^ 20480) hm hf (by rw[show 20480=20476+4 from rfl,Nat.pow_add,Nat.mul_comm];exact Nat.mul_le_mul_left _ (by decide)) (Nat.one_le_two_pow) (λp j _ hj=>YH (c_bits hT hm hl hW p j hj)) 12 p x hp (Yf (YH (way_lt hT hp)) hl) hx
 have h2:=c_bits hT hm hl hW p x hx
 rw[<-Nat.pow_mul]at h1
 have h3:oW T c f p x<2 ^ 300000:=Ys h1 (Nat.pow_lt_pow_right (by decide) (by decide))
 exact Zeu (Yf ((intBits_le_iff (m:=300000)).mpr h3) (by decide)) (Yf ((intBits_le_iff (m:=20476)).mpr h2) (by decide))
theorem fnR_le {r:List Nat}{m:Nat} (hr:∀i∈r,i<m) (j:Nat):fnR r j<=m:=by
 by_cases h:j<r.length
 ·exact YH (fnR_lt hr h)
 ·simp[fnR,Yg,List.getElem?_eq_none (Nat.le_of_not_lt h)]
theorem spans_col {S:Hp}{d:Addr}{T:List Int}{m:Nat}{c:Nat->Nat->Nat} (hW:WaysAt S d 13 m c (λp=>p<T.length)) (p:Nat):∃(kvs:List (KO×V)) (k:KO) (b:Addr),S d=some (.ext (Zdn d kvs))/\optN (kidB T p)=oV k/\Zag kvs k=some (.ref b)/\S b=some (.lst (wayL m (cOf c (kidB T p)))):=by
 obtain⟨kvs,w1,_,⟨l0,w2,w3⟩,w4⟩:=hW
 cases e:kidB T p with
 |none=>exact⟨kvs,none,l0,w1,rfl,w2,w3⟩
 |some q =>
  obtain⟨b,b1,b2⟩:=w4 q (kidB_some e).2.1
  exact⟨kvs,some (q:Int),b,w1,rfl,b1,b2⟩
theorem ok_Filling_onward_ways {f:Addr}{fd:FuncData}{n:Nat} (F:Fun K "onward_ways" "Filling.onward_ways" s_Filling_onward_ways f fd) (GM_Filling_outside_ways:Zad P w K mg base "Filling" "outside_ways" (2+n) ["self","place"] (sp_Filling_outside_ways_R n K mg)) (T:Txt K mg):FnOk P w K mg base (CXE P w) (2+n+1) f fd ["self","place"] (sp_Filling_onward_ways_R (n+1) K mg):=by
 refine F.okX sc_Filling_onward_ways (λvs H Q E h=>?_) (λcdv A outer s H vs Q E hr h=>?_)
 ·obtain⟨a,T,m,c,r,p,rfl,_⟩:=h;rfl
 obtain⟨a,T',m,c,r,p,rfl,hF,hG,hp,hU,hn,k1⟩:=h
 refine⟨_,(Zd (Zm (i:=2) sc_Filling_onward_ways.nd rfl (Or.inr rfl) (ZM Zu (ZM Zu (Z0 (K:=K) rfl T.cl_Filling T.n_Filling_young (pv 0)) (pv 1) (λ_ _=>rfl)) Ze (λ_ _=>rfl)))
   (Zg (Zs (ZaR ["number","out","behind","self"] [none,none,some 2,some 0] rfl rfl rfl (Zqv (K:=K) rfl rfl T.b_enumerate (Za (ZdA (mg:=mg) rfl GM_Filling_outside_ways (hr.mono (by omega)) Zn (pv 0) (Za (pv 1) Zc)) Zc)) (λ_ _ _ _ _=>(Zmg (K:=K) (n:=2) rfl rfl (ZE (Zl (i:=0) (show(["number","out","behind","self"]:List Str).Nodup from by decide +kernel) rfl (Or.inl rfl)) (ZE (Zl (i:=1) (show(["number","out","behind","self"]:List Str).Nodup from by decide +kernel) rfl (Or.inl rfl)) Za2)))) (λ_ _ _ _ _=>ZaE) (λ_ _ _ _ _=>(Zq Zai (pv 1) (ZM (r:=rIxL K) Zu (ZfG (Z0 (K:=K) rfl T.cl_Filling T.n_Filling_spans (pv 3)) (pv 2) (λ_ _=>rfl)) (pv 0) (λ_ _=>rfl)))) (Zki (Zet ZQ (Zet ZQ Zkh))))))),?_⟩
 obtain⟨dx,fs,kvs,h1,⟨f1,f2,f3,f4,f5,f6,f7,f8,f9,f10,f11⟩,h3,h4,h5,h6,h7,h8⟩:=id hF.1
 obtain⟨hGT,hl12,hm0,hm12,hW,hrm,hrl⟩:=id hG
 obtain⟨_,ns,hT⟩:=id hGT
 have eN:=hT.1
 have x1:=strip_sub _ _ h1
 obtain⟨as,y1,y2,y3⟩:=id h4
 obtain⟨b,hb⟩:∃b,as[p]?=some b:=⟨_,Yh (by omega)⟩
 obtain⟨ah,bh,hA,hB,hab⟩:=y3 p b hb
 obtain rfl:=behind_one hT hB (kidB_is T' p)
 obtain⟨n,rfl⟩:∃n',n=n'+1:=⟨n-1,by omega⟩
 walk_at "rd"
 refine⟨dx,fs,x1,_,f3,_,rfl,_,SqL.of (strip_sub _ _ y1),V.ref b,Zb0 (by rw[YE,hb];rfl),_,rfl,_,SqL.of (strip_sub _ _ hab),_,rfl,dx,fs,x1,f8,a,T',m,c,r,p,rfl,hF,hG,hp,hU,by omega,λl H1 e1 hF1 hl=>⟨l,rfl,_,SqL.of (strip_sub _ _ hl),?_⟩⟩
 have hF1':=fillS_same hF1.1 strip_sub
 obtain⟨dx1,fs1,kvs1,i1,⟨_,_,_,j4,_⟩,_,_,i5,_⟩:=id hF1'
 obtain⟨ks,ko,sb,u1,u2,u3,u4⟩:=spans_col i5 p
 have hl':=strip_sub _ _ hl
 refine comp_map (n:=m) (λj=>V.int ((nW T' c (fnR r) p j:Nat):Int)) (Ys (show _<=12 by omega) (by decide)) (λj Hx s hj=>⟨_,_,SqL.of (s _ _ hl'),Yh (by rw[outL_len];exact hj)⟩) (λHx s=>⟨_,SqL.of (s _ _ hl'),outL_len _ _⟩) ?_ ?_
 ·rintro j x Hx Hz hj s ⟨q,x,hq,rfl,rfl,hx⟩
  have ex:=hx _ (SqL.of (s _ _ hl'))
  rw[show(outL m (oW T' c (fnR r) p))[j]?=some (V.int ((oW T' c (fnR r) p j:Nat):Int)) by simp[outL,hj]]at ex
  cases ex
  have g:=(Zf.refl Hx).upd (o:=.tup [.int (j:Int),.int ((oW T' c (fnR r) p j:Nat):Int)]) hq
  have tq:=Zb (H:=Hx) (a:=q) (o:=.tup [.int (j:Int),.int ((oW T' c (fnR r) p j:Nat):Int)])
  generalize upd Hx q (.tup [.int (j:Int),.int ((oW T' c (fnR r) p j:Nat):Int)])=Hy at g tq⊢
  have sg:=s.trans g
  walk_at "rd"
  exact⟨_,SqT.of tq,rfl,_,_,rfl,_,_,rfl,rfl,dx1,fs1,sg _ _ i1,_,j4,_,rfl,_,sg _ _ u1,_,u2,_,u3,_,rfl,_,_,rfl,SqL.of (sg _ _ u4),_,wayL_at (by omega),_,rfl,_,rfl,oW_ok hT hm12 hl12 hW (fnR_le hrm) hp (by omega),CW.next hj (by simp[nW]) sg⟩
 ·intro r1 H5 s5 hr5
  refine k1 r1 _ (exc_trans e1 ((s5.ZJ hr5).Zgx)) (fillR_same hF1 (s5.ZJ hr5)) ?_
  rw[Zao (λy=>by rw[y,s5 _ _ hF1.2]at hr5;cases hr5),Zb]
  rfl
theorem ok_Filling_next_ways {f:Addr}{fd:FuncData} (F:Fun K "next_ways" "Filling.next_ways" s_Filling_next_ways f fd) (GM_Filling_onward_ways:Zad P w K mg base "Filling" "onward_ways" 42 ["self","place"] (sp_Filling_onward_ways K mg)) (T:Txt K mg):FnOk P w K mg base (CXE P w) 43 f fd ["self"] (sp_Filling_next_ways K mg):=by
 refine F.okX sc_Filling_next_ways (λvs H Q E h=>?_) (λcdv A outer s H vs Q E hr h=>?_)
 ·obtain⟨a,T,m,c,r,rfl,_⟩:=h;rfl
 obtain⟨a,T',m,c,r,rfl,hF,hG,hk,k1⟩:=h
 refine⟨_,(Zd (Zm (i:=1) sc_Filling_next_ways.nd rfl (Or.inl rfl) (Zk (Zp (K:=K) rfl) rfl T.b_len Yv (Za (Z0 (K:=K) rfl T.cl_Filling T.n_Filling_row (pv 0)) Zc)))
   (Zd (Zm (i:=2) sc_Filling_next_ways.nd rfl (Or.inl rfl) (ZM Zu (ZM Zu (Z0 (K:=K) rfl T.cl_Filling T.n_Filling_young (pv 0)) (pv 1) (λ_ _=>rfl)) Ze (λ_ _=>rfl)))
   (Zd (Zm (i:=3) sc_Filling_next_ways.nd rfl (Or.inl rfl) (Zfn (Zx op_isN (pv 2) Zjd (Zz _)) (Z0 (K:=K) rfl T.cl_Filling T.n_Filling_most (pv 0)) (ZM Zu (Z0 (K:=K) rfl T.cl_Filling T.n_Filling_row (pv 0)) (pv 2) (λ_ _=>rfl))))
   (Zg (Zs (ZbP ZcK (ZdA (mg:=mg) rfl GM_Filling_onward_ways (hr.mono (by decide)) Zn (pv 0) (Za (pv 1) Zc)) Zer (ZbZ (pv 3)))))))),?_⟩
 obtain⟨dx,fs,kvs,h1,⟨f1,f2,f3,f4,f5,f6,f7,f8,f9,f10,f11⟩,h3,h4,h5,h6,h7,h8⟩:=id hF.1
 obtain⟨hGT,hl12,hm0,hm12,hW,hrm,hrl⟩:=id hG
 obtain⟨_,ns,hT⟩:=id hGT
 have eN:=hT.1
 have x1:=strip_sub _ _ h1
 have rl1:=hF.2
 obtain⟨as,y1,y2,y3⟩:=id h4
 obtain⟨b,hb⟩:∃b,as[r.length]?=some b:=⟨_,Yh (by omega)⟩
 obtain⟨ah,bh,hA,hB,hab⟩:=y3 r.length b hb
 obtain rfl:=ahead_one hT hA (kidA_is T' r.length)
 have eR:(rowV r).length=r.length:=by simp[rowV]
 refine Zah (fun σ Hx=>σ=[some (.ref a.x),some (.int r.length),none,none]/\Hx=H) (λR hR=>?_) ?_
 ·walk_at "rd"
  exact⟨dx,fs,x1,_,f6,_,rfl,_,.inl (SqL.of rl1),hR _ _ ⟨by rw[eR],rfl⟩⟩
 rintro σ Hx ⟨rfl,rfl⟩
 refine Zah (fun σ Hy=>σ=[some (.ref a.x),some (.int r.length),some (optN (kidA T' r.length)),none]/\Hy=Hx) (λR hR=>?_) ?_
 ·walk_at "rd"
  exact⟨dx,fs,x1,_,f3,_,rfl,_,SqL.of (strip_sub _ _ y1),V.ref b,Zb0 (by rw[YE,hb];rfl),_,rfl,_,SqL.of (strip_sub _ _ hab),_,rfl,hR _ _ ⟨rfl,rfl⟩⟩
 rintro σ Hy ⟨rfl,rfl⟩
 refine Zah (fun σ Hz=>σ=[some (.ref a.x),some (.int r.length),some (optN (kidA T' r.length)),some (.int (abV T' m (fnR r) r.length:Nat))]/\Hz=Hy) (λR hR=>?_) ?_
 ·walk_at "rd"
  cases e:kidA T' r.length with
  |none =>
   refine Z2 (λ_=>⟨dx,fs,x1,_,f2,?_⟩) λz=>absurd rfl z
   have:=hR [some (.ref a.x),some (.int r.length),some (optN (kidA T' r.length)),some (.int (abV T' m (fnR r) r.length:Nat))] Hy ⟨rfl,rfl⟩
   unfold abV at this
   rw[e]at this
   exact this
  |some q =>
   have hq:=(kidA_some e).1
   refine Z2 (λz=>nomatch z) λ_=>⟨dx,fs,x1,_,f6,_,rfl,_,_,rfl,SqL.of rl1,_,row_at_v hq,?_⟩
   have:=hR [some (.ref a.x),some (.int r.length),some (optN (kidA T' r.length)),some (.int (abV T' m (fnR r) r.length:Nat))] Hy ⟨rfl,rfl⟩
   unfold abV at this
   rw[e]at this
   exact this
 rintro σ Hz ⟨rfl,rfl⟩
 walk_at "rd"
 have hab:abV T' m (fnR r) r.length<=m:=by
  unfold abV
  cases e:kidA T' r.length with
  |none=>exact Yd _
  |some q=>exact fnR_le hrm q
 refine⟨dx,fs,x1,f10,a,T',m,c,r,r.length,rfl,hF,hG,hk,up_next hT hk,(show 3*(way T' r.length).length+2<=39 by have:=way_lt hT hk;omega),λl H1 e1 hF1 hl=>⟨l,rfl,_,SqL.of (strip_sub _ _ hl),λb2 hb2=>?_⟩⟩
 have g:=(Zf.refl H1).upd (o:=.lst (ZbW (outL m (nW T' c (fnR r) r.length)) none (some ((abV T' m (fnR r) r.length:Nat):Int)))) hb2
 refine k1 b2 _ (exc_trans e1 g.Zgx) (fillR_same hF1 g) ?_
 rw[Zao (λy=>by rw[y,hF1.2]at hb2;cases hb2),Zb,Zoq]
 congr 2
 refine List.ext_getElem (by simp[outL];omega) λj j1 j2=>?_
 simp[outL]
theorem excF {x:Addr}{H H1:Hp}{ho:HO}{b:Addr} (e:Exc x H H1) (hx:H x=some ho) (z:H1 b=none) (hx1:H1 x≠none:=by intro z;simp_all):H b=none:=by
 cases h:H b with
 |none=>rfl
 |some u =>
  by_cases y:b=x
  ·subst y;exact absurd z hx1
  ·rw[e b u y h]at z;cases z
theorem ok_Filling___init__ {f:Addr}{fd:FuncData} (F:Fun K "__init__" "Filling.__init__" s_Filling___init__ f fd) (Ze1:Callee P w K mg base "young_of" 1 ["tree"] (sp_young_of K mg)) (ZdK:Callee P w K mg base "span_ways" 6 ["tree","young","m"] (sp_span_ways K mg)) (T:Txt K mg):FnOk P w K mg base (CXE P w) 7 f fd ["self","tree","m"] (sp_Filling___init__ K mg):=by
 refine F.okX sc_Filling___init__ (λvs H Q E h=>?_) (λcdv A outer s H vs Q E hr h=>?_)
 ·obtain⟨x,dx,t,T,m,rfl,_⟩:=h;rfl
 obtain⟨x,dx,t,T',m,rfl,hx,ht,hG,hl,hm,hTb,k1⟩:=h
 refine⟨_,(Zd (ZeA (K:=K) rfl T.cl_Filling T.n_Filling_tree (pv 0) (pv 1))
   (Zd (ZeA (K:=K) rfl T.cl_Filling T.n_Filling_most (pv 0) (pv 2))
   (Zd (ZeA (K:=K) rfl T.cl_Filling T.n_Filling_young (pv 0) (Zj Ze1 (hr.mono (by decide)) rfl Zn (Za (pv 1) Zc)))
   (Zd (ZeA (K:=K) rfl T.cl_Filling T.n_Filling_spans (pv 0) (Zj ZdK (hr.mono (by decide)) rfl Zn (Za (pv 1) (Za (Z0 (K:=K) rfl T.cl_Filling T.n_Filling_young (pv 0)) (Za (pv 2) Zc)))))
   (Zd (ZeA (K:=K) rfl T.cl_Filling T.n_Filling_outsides (pv 0) ZoG)
   (Zg (ZeA (K:=K) rfl T.cl_Filling T.n_Filling_row (pv 0) (ZX Zc)))))))),?_⟩
 have htE:∀Hx,Exc x H Hx->TupH Hx t (T'.map V.int):=λHx e=>by
  rcases ht with h|⟨ob,o1,o2⟩
  ·exact .inl (e _ _ (λz=>by rw[z,hx]at h;cases h) h)
  ·exact .inr ⟨ob,o1,e _ _ (λz=>by rw[z,hx]at o2;cases o2) o2⟩
 have nTx:ZjC K mg "from_below"≠x:=λz=>by
  have:=hTb
  unfold ZbA at this
  rw[z,hx]at this;cases this
 have hTE:∀Hx,Exc x H Hx->ZbA K mg "from_below" Hx:=λHx e=>e _ _ nTx hTb
 have exU:∀{Hx:Hp}{o:HO},Exc x H Hx->Exc x H (upd Hx x o):=λ{Hx o} e b u n z=>by rw[Zh n];exact e b u n z
 refine Zah (fun σ Hx=>σ=[some (.ref x),some (.ref t),some (.int m)]/\Hx x=some (.ins (cFi mg) dx (ZaY (Str.ofString "tree") (.ref t) []))/\Exc x H Hx) (λR hR=>?_) ?_
 ·walk_at "rd"
  exact⟨dx,[],hx,by decide,hR _ _ ⟨rfl,Zb,exU exc_refl⟩⟩
 rintro σ H1 ⟨rfl,f1,e1⟩
 have l1:=ZaD (Str.ofString "tree") (.ref t) []
 generalize hA:ZaY (Str.ofString "tree") (.ref t) []=fsA at f1 l1
 refine Zah (fun σ Hx=>σ=[some (.ref x),some (.ref t),some (.int m)]/\Hx x=some (.ins (cFi mg) dx (ZaY (Str.ofString "most") (.int m) fsA))/\Exc x H Hx) (λR hR=>?_) ?_
 ·walk_at "rd"
  exact⟨dx,fsA,f1,Ys l1 (by decide),hR _ _ ⟨rfl,Zb,exU e1⟩⟩
 clear f1 e1 H1
 rintro σ H1 ⟨rfl,f1,e1⟩
 have l2:=ZaD (Str.ofString "most") (.int m) fsA
 generalize hB:ZaY (Str.ofString "most") (.int m) fsA=fsB at f1 l2
 refine Zah (fun σ Hx=>∃y,σ=[some (.ref x),some (.ref t),some (.int m)]/\H y=none/\Hx x=some (.ins (cFi mg) dx (ZaY (Str.ofString "young") (.ref y) fsB))/\YoungAt Hx y T'/\Exc x H Hx) (λR hR=>?_) ?_
 ·walk_at "rd"
  exact⟨t,T',rfl,tupH_sq (htE _ e1),hG,λy H2 zy hY s2=>⟨dx,fsB,s2 _ _ f1,Ys (Yf l2 (Nat.succ_le_succ l1)) (by decide),hR _ _ ⟨y,rfl,excF e1 hx zy,Zb,hY.updI (s2 _ _ f1),exU (λb o n z=>s2 _ _ (e1 b o n z))⟩⟩⟩
 clear f1 e1 H1
 rintro σ H1 ⟨y,rfl,zy,f1,hY,e1⟩
 have l3:=ZaD (Str.ofString "young") (.ref y) fsB
 generalize hC:ZaY (Str.ofString "young") (.ref y) fsB=fsC at f1 l3
 have y3:fsC.lookup (Str.ofString "young")=some (.ref y):=by rw[<-hC,Zbn,Yc rfl]
 refine Zah (fun σ Hx=>∃d c,σ=[some (.ref x),some (.ref t),some (.int m)]/\Hx x=some (.ins (cFi mg) dx (ZaY (Str.ofString "spans") (.ref d) fsC))/\YoungAt Hx y T'/\WaysIs T' m c/\WaysAt Hx d 13 m c (λp=>p<T'.length)/\Exc x H Hx) (λR hR=>?_) ?_
 ·walk_at "rd"
  exact⟨dx,fsC,f1,_,y3,t,y,T',m,rfl,tupH_sq (htE _ e1),hY,hG,hl,hm,hTE _ e1,λd c H2 zd s2 hW hA=>⟨dx,fsC,s2 _ _ f1,Ys (Yf l3 (Nat.succ_le_succ (Yf l2 (Nat.succ_le_succ l1)))) (by decide),hR _ _ ⟨d,c,rfl,Zb,(youngAt_same hY s2).updI (s2 _ _ f1),hW,hA.updI (s2 _ _ f1),exU (λb o n z=>s2 _ _ (e1 b o n z))⟩⟩⟩
 clear f1 e1 H1 hY
 rintro σ H1 ⟨d,c,rfl,f1,hY,hW,hA',e1⟩
 have l4:=ZaD (Str.ofString "spans") (.ref d) fsC
 generalize hD:ZaY (Str.ofString "spans") (.ref d) fsC=fsD at f1 l4
 refine Zah (fun σ Hx=>∃o,σ=[some (.ref x),some (.ref t),some (.int m)]/\H o=none/\Hx o=some (.dK [])/\Hx x=some (.ins (cFi mg) dx (ZaY (Str.ofString "outsides") (.ref o) fsD))/\YoungAt Hx y T'/\WaysAt Hx d 13 m c (λp=>p<T'.length)/\Exc x H Hx) (λR hR=>?_) ?_
 ·walk_at "rd"
  intro p zp
  have g1:=(Zf.refl H1).upd (o:=.dK []) zp
  have npx:p≠x:=λz=>by rw[z,f1]at zp;cases zp
  exact⟨dx,fsD,g1 _ _ f1,Ys (Yf l4 (Nat.succ_le_succ (Yf l3 (Nat.succ_le_succ (Yf l2 (Nat.succ_le_succ l1)))))) (by decide),hR _ _ ⟨p,rfl,excF e1 hx zp,by rw[Zh npx,Zb],Zb,(youngAt_same hY g1).updI (g1 _ _ f1),(hA'.same g1).updI (g1 _ _ f1),exU (λb o n z=>g1 _ _ (e1 b o n z))⟩⟩
 clear f1 e1 H1 hY hA'
 rintro σ H1 ⟨o,rfl,zo,ho,f1,hY,hA',e1⟩
 have l5:=ZaD (Str.ofString "outsides") (.ref o) fsD
 generalize hE:ZaY (Str.ofString "outsides") (.ref o) fsD=fsE at f1 l5
 walk_at "rd"
 refine⟨by decide,λb zb=>?_⟩
 have g1:=(Zf.refl H1).upd (o:=.lst []) zb
 have nbx:b≠x:=λz=>by rw[z,f1]at zb;cases zb
 refine⟨dx,fsE,g1 _ _ f1,Ys (Yf l5 (Nat.succ_le_succ (Yf l4 (Nat.succ_le_succ (Yf l3 (Nat.succ_le_succ (Yf l2 (Nat.succ_le_succ l1)))))))) (by decide),?_⟩
 have e2:Exc x H (upd (upd H1 b (.lst [])) x (.ins (cFi mg) dx (ZaY (Str.ofString "row") (.ref b) fsE))):=exU (λb o n z=>g1 _ _ (e1 b o n z))
 have hFS:FillS mg H1 ⟨x,t,y,d,o,b⟩ T' m c []->True:=λ_=>trivial
 refine k1 ⟨x,t,y,d,o,b⟩ c _ rfl rfl (excF e1 hx zb) zo e2 hW ⟨?_,by rw[Zh nbx,Zb];rfl⟩
 rw[strip_upd (λz=>nbx z.symm),show strip b (upd H1 b (.lst []))=strip b H1 from strip_own]
 have sS:Zf H1 (strip b H1):=λd' u z=>by rw[Zao (λy=>by rw[y,zb]at z;cases z)];exact z
 have f2:=sS _ _ f1
 refine⟨dx,_,[],Zb,?_,?_,(youngAt_same hY sS).updI f2,(hA'.same sS).updI f2,?_,Ym _,λp hp v e=>nomatch e⟩
 ·subst hE hD hC hB hA
  refine⟨?_,?_,?_,?_,?_,?_,?_,?_,?_,?_,?_⟩<;>(repeat (first|rw[Zbn,Yb (by decide)]|rw[Zbn,Yc rfl]))<;>rfl
 ·have e3:Exc x H (upd (strip b H1) x (.ins (cFi mg) dx (ZaY (Str.ofString "row") (.ref b) fsE))):=exU (λb o n z=>sS _ _ (e1 b o n z))
  exact htE _ e3
 ·rw[Zh (λz=>by rw[show o=x from z]at ho;rw[f1]at ho;cases ho)]
  exact sS _ _ ho
theorem ok_Filling_how_many_rows {f:Addr}{fd:FuncData} (F:Fun K "how_many_rows" "Filling.how_many_rows" s_Filling_how_many_rows f fd) (T:Txt K mg):FnOk P w K mg base (CXE P w) 1 f fd ["self"] (sp_Filling_how_many_rows K mg):=by
 refine F.okX sc_Filling_how_many_rows (λvs H Q E h=>?_) (λcdv A outer s H vs Q E hr h=>?_)
 ·obtain⟨x,t,T,m,c,rfl,_⟩:=h;rfl
 obtain⟨x,t,T',m,c,rfl,hF,hG,hl,k1⟩:=h
 refine⟨_,(Zg (Zs (Zfn (ZnZ (Z0 (K:=K) rfl T.cl_Filling T.n_Filling_tree (pv 0)) (λ_=>rfl)) (ZM Zu (ZfG (Z0 (K:=K) rfl T.cl_Filling T.n_Filling_spans (pv 0)) (pe_bmH PySem.F.slot_tuple_index PySem.F.type_tuple_index (Zns (K:=K) rfl) (Z0 (K:=K) rfl T.cl_Filling T.n_Filling_tree (pv 0)) (Za (Zbm ZaC Ze) Zc)) (λ_ _=>rfl)) Ze (λ_ _=>rfl)) Ze))),?_⟩
 obtain⟨dx,d,fs,f1,f2,f3,f4,ht,hW⟩:=hF
 obtain⟨kvs,w1,w0,w2,w3⟩:=hW
 have eL:(T'.map V.int).length=T'.length:=Yi ..
 walk_at "rd"
 refine⟨dx,fs,f1,_,f2,!T'.isEmpty,?_,Z2 (λc1=>?_) λc1=>?_⟩
 ·exact .inr (.inl ⟨_,ht.sq,by cases T'<;>rfl⟩)
 ·have hne:T'≠[]:=λz=>by rw[z]at c1;cases c1
  have hm1:(-1:Int)∈T':=by
   obtain⟨_,ns,hT⟩:=hG
   exact top_in hT _ 0 (List.length_pos_iff.mpr hne) (Yd _)
  have hix:T'.idxOf (-1)<T'.length:=List.idxOf_lt_length_of_mem hm1
  obtain⟨l,v1,v2⟩:=w3 _ hix
  refine⟨dx,fs,f1,_,f3,dx,fs,f1,_,f2,⟨t,rfl,_,ht.ne hne⟩,t,rfl,T',ht.sq,hm1,d,rfl,kvs,w1,some ((T'.idxOf (-1):Nat):Int),rfl,_,v1,l,rfl,?_⟩
  exact⟨_,SqL.of v2,_,wayL_at (j:=0) (Ym _),by
   have:topC T' c=c (T'.idxOf (-1)) 0:=by unfold topC;rw[Yb hne]
   rw[this]at k1
   exact k1⟩
 ·have hne:T'=[]:=by cases T'<;>simp_all
  have:topC T' c=1:=by unfold topC;rw[Yc hne]
  rw[this]at k1
  exact k1
theorem tupQ_h {H:Hp}{t:Addr}{T:List Int} (h:TupQ H t T):TupH H t (T.map V.int):=h.elim .inr λe=>by rw[e.1];exact .inl e.2
theorem fillR_at {mg:Str->Option Value}{H:Hp}{a:Fa}{T:List Int}{m:Nat}{c:Nat->Nat->Nat}{r:List Nat} (h:FillR mg H a T m c r) (ht:TupQ H a.t T):FillAt H a.x a.t T m c mg:=by
 obtain⟨dx,fs,kvs,h1,⟨f1,f2,f3,f4,f5,f6,f7,_⟩,_,_,h5,_⟩:=fillS_same h.1 strip_sub
 exact⟨dx,a.d,fs,h1,f1,f4,f7,ht,h5⟩
theorem ok_many_rows {f:Addr}{fd:FuncData} (F:Fun K "many_rows" "many_rows" s_many_rows f fd) (ZT:Callee P w K mg base "need_tree" 4 ["tree"] (sp_need_tree K mg)) (Zal:Callee P w K mg base "need_few" 1 ["many","m"] (sp_need_few K mg)) (GI_Filling:ZfF P w K mg base "Filling" 7 ["self","tree","m"] (sp_Filling___init__ K mg)) (GM_Filling_how_many_rows:Zad P w K mg base "Filling" "how_many_rows" 1 ["self"] (sp_Filling_how_many_rows K mg)) (T:Txt K mg):FnOk P w K mg base (CXE P w) 9 f fd ["tree","m"] (sp_many_rows K mg):=by
 refine F.okX sc_many_rows (λvs H Q E h=>?_) (λcdv A outer s H vs Q E hr h=>?_)
 ·obtain⟨t,T,m,rfl,_⟩:=h;rfl
 obtain⟨t,T',m,rfl,ht,hG,hl,hm,hTb,k1⟩:=h
 refine⟨_,(Zd (ZN (Zj ZT (hr.mono (by decide)) rfl Za3 (Za (pv 0) Zc)))
   (Zd (ZN (Zj Zal (hr.mono (by decide)) rfl Zn (Za (Zk (Zp (K:=K) rfl) rfl T.b_len Yv (Za (pv 0) Zc)) (Za (pv 1) Zc))))
   (Zg (Zs (ZeB (mg:=mg) rfl GM_Filling_how_many_rows (hr.mono (by decide)) Zn (ZhM (mg:=mg) rfl GI_Filling (hr.mono (by decide)) rfl Zn (Za (pv 0) (Za (pv 1) Zc)))))))),?_⟩
 have eL:(T'.map V.int).length=T'.length:=Yi ..
 walk_at "rd"
 refine⟨t,T',rfl,ht.sq,by omega,λ_ H1 s1=>⟨_,.inr (ht.same s1).sq,?_⟩,λz=>absurd hG z⟩
 rw[eL]
 refine⟨T'.length,m,rfl,hl,hm,λx dx zx zdx ne=>?_⟩
 have g:=((Zf.refl H1).upd (o:=.own x) zdx).ZJ (o:=.ins (cFi mg) dx []) (by rw[Zh (Ne.symm ne)];exact zx)
 refine⟨x,dx,t,T',m,rfl,Zb,tupQ_h (ht.same (s1.trans g)),hG,hl,hm,ZbA.same hTb (s1.trans g),λa c H2 ax at' _ _ e2 hW hF=>?_⟩
 subst ax at'
 have sF:Zf H H2:=λb o z=>e2 b o (Zo z (s1.free zx)) ((s1.trans g) b o z)
 have hF2:=fillR_at hF (ht.same sF)
 obtain⟨dx2,d,fs,f1,f2,f3,f4,r⟩:=id hF2
 exact⟨rfl,dx2,fs,f1,f4,a.x,a.t,T',m,c,rfl,hF2,hG,hl,k1 c H2 sF hW⟩
theorem ok_pick {f:Addr}{fd:FuncData} (F:Fun K "pick" "pick" s_pick f fd) (T:Txt K mg):FnOk P w K mg base (CXE P w) 1 f fd ["ways","number"] (sp_pick K mg):=by
 refine F.okX sc_pick (λvs H Q E h=>?_) (λcdv A outer s H vs Q E hr h=>?_)
 ·obtain⟨t,ws,x,rfl,_⟩:=h;rfl
 obtain⟨t,ws,x,rfl,ht,h0,h1,k1⟩:=h
 refine⟨_,(Zd (Zm (i:=2) sc_pick.nd rfl (Or.inl rfl) Ze)
   (Zd (Z3 (Zhj PassesOwn.never (Zx Zmb (pv 1) (ZM Zu (pv 0) (pv 2) (λ_ _=>rfl)) (Zz _)) (Zd (Zdr (i:=1) sc_pick.nd rfl (Or.inl rfl) (ZM Zu (pv 0) (pv 2) (λ_ _=>rfl)) ZnU)
   (Zg (Zdr (i:=2) sc_pick.nd rfl (Or.inl rfl) Ze Zjg)))))
   (Zg (Zs (Zjj (Za (pv 2) (Za (pv 1) Zc))))))),?_⟩
 walk_at "rd"
 refine Zju ws.length (λi σ Hx=>∃y:Int,σ=[some (.ref t),some (.int y),some (.int (i:Int))]/\0<=y/\y<(ws.drop i).sum/\Z1 ws x=(i+(Z1 (ws.drop i) y).1,(Z1 (ws.drop i) y).2)/\Hx=H) ⟨x,rfl,h0,h1,by rw[List.drop_zero,Nat.zero_add],rfl⟩ ?_
 rintro i σ Hx hi ⟨y,rfl,y0,y1,hP,rfl⟩
 have hil:i<ws.length:=by
  rcases Nat.lt_or_ge i ws.length with z|z
  ·exact z
  ·rw[List.drop_of_length_le z]at y1;simp at y1;omega
 have ea:ws[i]?=some (nth ws i):=by simp[nth,Yg,hil]
 rw[ZlB ea]at hP
 have es:(ws.drop i).sum=nth ws i+(ws.drop (i+1)).sum:=by
  rw[List.drop_eq_getElem_cons hil,List.sum_cons]
  simp[nth,Yg,hil]
 walk_at "rd"
 refine⟨_,SqL.of ht,_,Zdw hil,_,rfl,Z2 (λz=>?_) λz=>?_⟩
 ·rw[Yc z]at hP
  refine⟨_,WI.next,_,SqL.of ht,_,Zdw hil,_,rfl,hil,_,rfl,by omega,by omega,?_,rfl⟩
  rw[hP];congr 1;omega
 ·rw[Yb z]at hP
  refine⟨by decide,λu hu=>k1 u _ ((Zf.refl _).upd hu) ?_⟩
  rw[Zb,hP];rfl
theorem ok_row_at {f:Addr}{fd:FuncData} (F:Fun K "row_at" "row_at" s_row_at f fd) (ZT:Callee P w K mg base "need_tree" 4 ["tree"] (sp_need_tree K mg)) (Zgf:Callee P w K mg base "pick" 1 ["ways","number"] (sp_pick K mg)) (Zal:Callee P w K mg base "need_few" 1 ["many","m"] (sp_need_few K mg)) (GI_Filling:ZfF P w K mg base "Filling" 7 ["self","tree","m"] (sp_Filling___init__ K mg)) (GM_Filling_how_many_rows:Zad P w K mg base "Filling" "how_many_rows" 1 ["self"] (sp_Filling_how_many_rows K mg)) (GM_Filling_next_ways:Zad P w K mg base "Filling" "next_ways" 43 ["self"] (sp_Filling_next_ways K mg)) (T:Txt K mg):FnOk P w K mg base (CXE P w) 44 f fd ["tree","m","number"] (sp_row_at K mg):=by
 refine F.okX sc_row_at (λvs H Q E h=>?_) (λcdv A outer s H vs Q E hr h=>?_)
 ·obtain⟨t,T,m,x,rfl,_⟩:=h;rfl
 obtain⟨t,T',m,x,rfl,ht,hG,hl,hm,hTb,k1,k2⟩:=h
 refine⟨_,(Zd (ZN (Zj ZT (hr.mono (by decide)) rfl Za3 (Za (pv 0) Zc)))
   (Zd (ZN (Zj Zal (hr.mono (by decide)) rfl Zn (Za (Zk (Zp (K:=K) rfl) rfl T.b_len Yv (Za (pv 0) Zc)) (Za (pv 1) Zc))))
   (Zd (Zm (i:=3) sc_row_at.nd rfl (Or.inl rfl) (ZhM (mg:=mg) rfl GI_Filling (hr.mono (by decide)) rfl Zn (Za (pv 0) (Za (pv 1) Zc))))
   (Zd (Z9 (Zci (Zcz ZeF Zgs Ze (pv 2) (ZeB (mg:=mg) rfl GM_Filling_how_many_rows (hr.mono (by decide)) Zn (pv 3)))) (Zg (Zbo rfl rfl T.c_NoNumber T.x_NoNumber (Za (Za0 (Zab (by decide) (Zcl (Zk (Zp (K:=K) rfl) rfl T.b_len Yv (Za (pv 0) Zc)) (Zab (by decide) (Zcl (pv 1) (Zab (by decide) Zdv)))))) Zc) Zb1)) ZC)
   (Zd (Z3 (Zae PassesOwn.never rfl (ZZ rfl T.b_range (Za (Zk (Zp (K:=K) rfl) rfl T.b_len Yv (Za (pv 0) Zc)) Zc)) (Zl (i:=4) sc_row_at.nd rfl (Or.inl rfl)) (Zd (Zcj (Zj Zgf (hr.mono (by decide)) rfl Zn (Za (ZeB (mg:=mg) rfl GM_Filling_next_ways (hr.mono (by decide)) Zn (pv 3)) (Za (pv 2) Zc))) (ZcH (n:=2) rfl (ZE (Zl (i:=5) sc_row_at.nd rfl (Or.inl rfl)) (ZE (Zl (i:=2) sc_row_at.nd rfl (Or.inl rfl)) Za2))))
   (Zg (ZN (ZeG PySem.F.plainAttrs_list PySem.F.slot_list_append PySem.F.type_list_append Zau (Z0 (K:=K) rfl T.cl_Filling T.n_Filling_row (pv 3)) (Za (pv 5) Zc)))))))
   (Zg (Zs (Zat (ZbK (K:=K) rfl) rfl T.b_tuple ZaQ (Za (Z0 (K:=K) rfl T.cl_Filling T.n_Filling_row (pv 3)) Zc))))))))),?_⟩
 have eL:(T'.map V.int).length=T'.length:=Yi ..
 obtain⟨_,ns,hT⟩:=id hG
 have eN:=hT.1
 refine Zah (fun σ Hx=>σ=[some (.ref t),some (.int m),some (.int x),none,none,none]/\Zf H Hx) (λR hR=>?_) ?_
 ·walk_at "rd"
  exact⟨t,T',rfl,ht.sq,by omega,λ_ H1 s1=>hR _ _ ⟨rfl,s1⟩,λz=>absurd hG z⟩
 rintro σ H1 ⟨rfl,s1⟩
 refine Zah (fun σ Hx=>σ=[some (.ref t),some (.int m),some (.int x),none,none,none]/\Zf H Hx) (λR hR=>?_) ?_
 ·walk_at "rd"
  refine⟨_,.inr (ht.same s1).sq,?_⟩
  rw[eL]
  exact⟨T'.length,m,rfl,hl,hm,hR _ _ ⟨rfl,s1⟩⟩
 clear s1 H1
 rintro σ H1 ⟨rfl,s1⟩
 refine Zah (fun σ Hx=>∃(a:Fa) (c:Nat->Nat->Nat),σ=[some (.ref t),some (.int m),some (.int x),some (.ref a.x),none,none]/\a.t=t/\H a.rl=none/\H a.o=none/\H a.x=none/\WaysIs T' m c/\FillR mg Hx a T' m c []/\Zf H Hx) (λR hR=>?_) ?_
 ·walk_at "rd"
  intro x2 dx zx zdx ne
  have g:=((Zf.refl H1).upd (o:=.own x2) zdx).ZJ (o:=.ins (cFi mg) dx []) (by rw[Zh (Ne.symm ne)];exact zx)
  refine⟨x2,dx,t,T',m,rfl,Zb,tupQ_h (ht.same (s1.trans g)),hG,hl,hm,ZbA.same hTb (s1.trans g),λa c H2 ax at' zr zo e2 hW hF=>?_⟩
  subst ax at'
  have sF:Zf H H2:=λb o z=>e2 b o (Zo z (s1.free zx)) ((s1.trans g) b o z)
  exact⟨rfl,hR _ _ ⟨a,c,rfl,rfl,(s1.trans g).free zr,(s1.trans g).free zo,s1.free zx,hW,hF,sF⟩⟩
 clear s1 H1
 rintro σ H1 ⟨a,c,rfl,rfl,zr,zo,zx,hW,hF,s1⟩
 refine Zah (fun σ Hx=>σ=[some (.ref a.t),some (.int m),some (.int x),some (.ref a.x),none,none]/\Hx=H1/\0<=x/\x<(manyC T' m:Nat)) (λR hR=>?_) ?_
 ·have hA:=fillR_at hF (ht.same s1)
  obtain⟨dx2,d2,fs2,f1,f2,f3,f4,_⟩:=id hA
  have no:¬ (0<=x/\x<(manyC T' m:Nat))->∀H',Zf H H'->∃y,(SqL K H' a.t y\/SqT K H' a.t y)/\0<=((y.length:Nat):Int)/\((y.length:Nat):Int)<10 ^ 18/\0<=((m:Nat):Int)/\((m:Nat):Int)<10 ^ 18/\∀(_:Str),0+1<=sizeLine/\E (.ref (clsAt mg (Str.ofString "NoNumber"))) none H':=λz H' s'=>⟨_,.inr (ht.same s').sq,by omega,by rw[eL];omega,by omega,by omega,λ_=>⟨by decide,k2 z H' s'⟩⟩
  walk_at "rd"
  refine Z2 (λz=>⟨dx2,fs2,f1,f4,a.x,a.t,T',m,c,rfl,hA,hG,hl,_,rfl,Z2 (λz2=>?_) λz2=>?_⟩) λz=>?_
  ·exact no (λy=>z2 (by rw[many_of hT hW];exact y.2)) H1 s1
  ·exact hR _ _ ⟨rfl,rfl,z,by rw[<-many_of hT hW];omega⟩
  ·exact no (λy=>z y.1) H1 s1
 rintro σ Hx ⟨rfl,rfl,x0,x1⟩
 walk_at "rd"
 refine⟨_,.inr (ht.same s1).sq,by omega,by rw[eL];omega,?_⟩
 rw[eL,show((T'.length:Nat):Int).toNat=T'.length by omega]
 refine Zas (λk σ Hy=>∃(r:List Nat) (rest:Nat) (v4 v5:Option V),σ=[some (.ref a.t),some (.int m),some (.int rest),some (.ref a.x),v4,v5]/\r.length=k/\(∀i∈r,i<m)/\FillR mg Hy a T' m c r/\PreOk T' m (fnR r) k/\rest<vW T' m c (fnR r) k/\x=((rkF T' c (fnR r) k+rest:Nat):Int)/\Zf H Hy) ?_ ?_ ?_
 ·refine⟨[],x.toNat,none,none,by rw[show((x.toNat:Nat):Int)=x by omega],rfl,(λi hi=>nomatch hi),hF,(λq hq=>absurd hq (by omega)),?_,?_,s1⟩
  ·rw[vW_zero hT hW,many_of hT hW];omega
  ·show x=((0+x.toNat:Nat):Int)
   omega
 ·clear hF s1
  rintro k σ Hy hk ⟨r,rest,v4,v5,rfl,rfl,hall,hF,hP,hrest,hx,sy⟩
  have hk':r.length<T'.length:=hk
  rw[show vW T' m c (fnR r) r.length=sumTo (nW T' c (fnR r) r.length) (abV T' m (fnR r) r.length) by unfold vW;rw[Yb (by omega)]]at hrest
  have hm0:0<m:=by
   rcases Nat.eq_zero_or_pos (abV T' m (fnR r) r.length)with z|z
   ·rw[z]at hrest;exact absurd hrest (Nat.not_lt_zero _)
   ·unfold abV at z
    cases e:kidA T' r.length with
    |none=>rw[e]at z;exact z
    |some q =>
     have:=(hP q (kidA_some e).1).1
     omega
  have hGF:GoodF T' m c r:=⟨hG,hl,hm0,hm,hW,hall,by omega⟩
  obtain⟨dx2,fs2,kv2,g1,⟨_,_,_,_,_,j6,_,_,_,_,j11⟩,_⟩:=id hF.1
  obtain⟨i,rest2,pk,p1,p2,p3⟩:=pick_rng (g:=nW T' c (fnR r) r.length) (k:=abV T' m (fnR r) r.length) (x:=(rest:Int)) (by omega) (by omega)
  obtain⟨q1,q2,q3,q4⟩:=step_row hT hW hk' hP p1 p2
  walk_at "rd"
  refine⟨dx2,fs2,strip_sub _ _ g1,j11,a,T',m,c,r,rfl,hF,hGF,hk',λl H2 e2 hF2 hl2=>⟨l,_,_,rfl,by rw[<-outInts];exact strip_sub _ _ hl2,by omega,by rw[(sums_rng _ _).2];omega,λu H3 s3 hu=>?_⟩⟩
  rw[pk]at hu
  have hF3:=fillR_same hF2 s3
  obtain⟨dx3,fs3,kv3,g3,⟨_,_,_,_,_,i6,_⟩,_⟩:=id hF3.1
  have hlr:(rowV r).length<sizeLine:=Ys (show _<=12 by simp[rowV];omega) (by decide)
  have eRV:rowV r++[V.int ((i:Nat):Int)]=rowV (r++[i]):=by simp[rowV]
  refine⟨u,rfl,_,SqT.of hu,rfl,_,_,rfl,_,_,rfl,rfl,dx3,fs3,strip_sub _ _ g3,_,i6,Zam hF3.2,_,rfl,_,hF3.2,hlr,r++[i],rest2,rfl,by simp,?_,?_,q1,q2,?_,?_⟩
  ·intro j hj
   rcases Yz.mp hj with z|z
   ·exact hall j z
   ·simp at z;omega
  ·refine⟨?_,by rw[Zb,eRV]⟩
   rw[strip_own]
   exact fillS_grow hT hF3.1 i
  ·rw[q3,hx];omega
  ·have e3:Zf H H3:=λb o z=>s3 _ _ (e2 b o (Zo z zo) (sy _ _ z))
   exact e3.upd zr
 ·rintro σ Hy ⟨r,rest,v4,v5,rfl,hrl,hall,hF,hP,hrest,hx,sy⟩
  obtain⟨dx2,fs2,kv2,g1,⟨_,_,_,_,_,j6,_⟩,_⟩:=id hF.1
  walk_at "rd"
  have hrest0:rest=0:=by
   unfold vW at hrest
   rw[Yc rfl]at hrest;omega
  refine⟨dx2,fs2,strip_sub _ _ g1,_,j6,_,rfl,_,.inl ⟨SqL.of hF.2,λu hu=>k1 ⟨x0,x1⟩ u r _ (sy.free hu) (sy.ZJ hu) ⟨hrl,hP⟩ ?_ Zb⟩⟩
  rw[<-rk_of hT hW hall,hx,hrest0];rfl
theorem walkQ {K:PySem.W.Frag}{r:Addr}{H H1:Hp}{xs:List V}{R:It->Prop} (hr:SqL K H r xs\/SqT K H r xs) (s1:Zf H H1)
  (key:∀J:It,(∀i Hx,Zf H Hx->i<xs.length->J.go i Hx)->(∀Hx,Zf H Hx->J.stop xs.length Hx)->(∀i Hx x Hx',Zf H Hx->J.yld i Hx x Hx'->Hx'=Hx/\xs[i]?=some x)->R J) :
  (∃xs,SqL K H1 r xs)/\R (Itl K r)\/(∃xs,SqT K H1 r xs)/\R (Itt K r):=by
 rcases hr with hr|hr
 ·exact .inl ⟨⟨_,s1.seq hr⟩,key _ (λi Hx s hi=>⟨_,_,s.seq hr,Yh hi⟩) (λHx s=>⟨_,s.seq hr,Yd _⟩) λi Hx x Hx' s ⟨h1,h2⟩=>⟨h1,h2 _ (s.seq hr)⟩⟩
 ·exact .inr ⟨⟨_,s1.Zbp hr⟩,key _ (λi Hx s hi=>⟨_,_,s.Zbp hr,Yh hi⟩) (λHx s=>⟨_,s.Zbp hr,Yd _⟩) λi Hx x Hx' s ⟨h1,h2⟩=>⟨h1,h2 _ (s.Zbp hr)⟩⟩
theorem walkC {K:PySem.W.Frag}{r:Addr}{H H1:Hp}{xs:List V}{g:TG}{tt:TT}{te:TE}{σ:L2.St}{Q:VK} (hr:SqL K H r xs\/SqT K H r xs) (s1:Zf H H1)
  (key:∀J:It,(∀i Hx,Zf H Hx->i<xs.length->J.go i Hx)->(∀Hx,Zf H Hx->J.stop xs.length Hx)->(∀i Hx x Hx',Zf H Hx->J.yld i Hx x Hx'->Hx'=Hx/\xs[i]?=some x)->ZeI J g tt te σ Q H1) :
  (∃xs,SqL K H1 r xs)/\ZeI (Itl K r) g tt te σ Q H1\/(∃xs,SqT K H1 r xs)/\ZeI (Itt K r) g tt te σ Q H1:=walkQ (R:=λJ=>ZeI J g tt te σ Q H1) hr s1 key
theorem walkL {K:PySem.W.Frag}{r:Addr}{H H1:Hp}{xs:List V}{g:TG}{tb:TS}{D:Ends}{σ:L2.St} (hr:SqL K H r xs\/SqT K H r xs) (s1:Zf H H1)
  (key:∀J:It,(∀i Hx,Zf H Hx->i<xs.length->J.go i Hx)->(∀Hx,Zf H Hx->J.stop xs.length Hx)->(∀i Hx x Hx',Zf H Hx->J.yld i Hx x Hx'->Hx'=Hx/\xs[i]?=some x)->ZiK J g tb D σ H1) :
  (∃xs,SqL K H1 r xs)/\ZiK (Itl K r) g tb D σ H1\/(∃xs,SqT K H1 r xs)/\ZiK (Itt K r) g tb D σ H1:=walkQ (R:=λJ=>ZiK J g tb D σ H1) hr s1 key
theorem rowV_get {r:List Nat}{i:Nat} (h:i<r.length):(rowV r)[i]?=some (V.int ((fnR r i:Nat):Int)):=by simp[rowV,fnR,Yg,h]
theorem fnR_take {r:List Nat}{k i:Nat} (h:i<k):fnR (r.take k) i=fnR r i:=by simp[fnR,Yg,List.getElem?_take,h]
theorem take_push {r:List Nat}{k:Nat} (h:k<r.length):r.take (k+1)=r.take k++[fnR r k]:=by
 rw[Y9,Yh h];simp[fnR,Yg,h]
theorem ok_number_of_row {f:Addr}{fd:FuncData} (F:Fun K "number_of_row" "number_of_row" s_number_of_row f fd) (ZaM:Callee P w K mg base "tree_of" 2 ["row"] (sp_tree_of K mg)) (Zal:Callee P w K mg base "need_few" 1 ["many","m"] (sp_need_few K mg)) (GI_Filling:ZfF P w K mg base "Filling" 7 ["self","tree","m"] (sp_Filling___init__ K mg)) (GM_Filling_next_ways:Zad P w K mg base "Filling" "next_ways" 43 ["self"] (sp_Filling_next_ways K mg)) (T:Txt K mg):FnOk P w K mg base (CXE P w) 44 f fd ["row","m"] (sp_number_of_row K mg):=by
 refine F.okX sc_number_of_row (λvs H Q E h=>?_) (λcdv A outer s H vs Q E hr h=>?_)
 ·obtain⟨t,r,m,rfl,_⟩:=h;rfl
 obtain⟨t,r,m,rfl,ht,hl,hm,hall,hTb,k1⟩:=h
 refine⟨_,(Zd (ZN (Zj Zal (hr.mono (by decide)) rfl Zn (Za (Zk (Zp (K:=K) rfl) rfl T.b_len Yv (Za (pv 0) Zc)) (Za (pv 1) Zc))))
   (Zd (Z9 (Zci (Zhi (Zk (Zol (K:=K) rfl rfl) rfl T.b_all bt_all (Za (ZaR ["number","m"] [none,some 1] rfl rfl rfl (Zon (K:=K) rfl (pv 0)) (λ_ _ _ _ _=>(Zl (i:=0) (show(["number","m"]:List Str).Nodup from by decide +kernel) rfl (Or.inl rfl))) (λ_ _ _ _ _=>ZaE) (λ_ _ _ _ _=>(ZnY ZeF Zgs Ze (pv 0) (pv 1))) ZQ) Zc)))) (Zg (Zbo rfl rfl T.c_NoNumber T.x_NoNumber (Za (Za0 (Zab (by decide) (Zcl (pv 1) (Zab (by decide) Zdv)))) Zc) Zb1)) ZC)
   (Zd (Zm (i:=2) sc_number_of_row.nd rfl (Or.inl rfl) (ZhM (mg:=mg) rfl GI_Filling (hr.mono (by decide)) rfl Zn (Za (Zj ZaM (hr.mono (by decide)) rfl Zn (Za (pv 0) Zc)) (Za (pv 1) Zc))))
   (Zd (Zm (i:=3) sc_number_of_row.nd rfl (Or.inl rfl) Ze)
   (Zd (Z3 (Zae PassesOwn.never rfl (Zon (K:=K) rfl (pv 0)) (Zl (i:=4) sc_number_of_row.nd rfl (Or.inl rfl)) (Zd (Zdr (i:=3) sc_number_of_row.nd rfl (Or.inl rfl) (Zk (Zfq rfl) rfl T.b_sum Zjp (Za (ZbP ZcK (ZeB (mg:=mg) rfl GM_Filling_next_ways (hr.mono (by decide)) Zn (pv 2)) Zer (ZbZ (pv 4))) Zc)) Zjg)
   (Zg (ZN (ZeG PySem.F.plainAttrs_list PySem.F.slot_list_append PySem.F.type_list_append Zau (Z0 (K:=K) rfl T.cl_Filling T.n_Filling_row (pv 2)) (Za (pv 4) Zc)))))))
   (Zg (Zs (pv 3)))))))),?_⟩
 have eR:(rowV r).length=r.length:=by simp[rowV]
 refine Zah (fun σ Hx=>σ=[some (.ref t),some (.int m),none,none,none]/\Hx=H) (λR hR=>?_) ?_
 ·walk_at "rd"
  refine⟨_,ht,?_⟩
  rw[eR]
  exact⟨r.length,m,rfl,hl,hm,hR _ _ ⟨rfl,rfl⟩⟩
 rintro σ Hx ⟨rfl,rfl⟩
 refine Zah (fun σ Hy=>σ=[some (.ref t),some (.int m),none,none,none]/\Zf Hx Hy) (λR hR=>?_) ?_
 ·walk_at "rd"
  refine walkC ht (Zf.refl Hx) λJ hgo hstop hy=>?_
  rw[eR]at hgo hstop
  refine comp_map (n:=r.length) (λj=>V.bl true) (Ys hl (by decide)) (λj Hz s hj=>hgo j Hz s hj) (λHz s=>hstop Hz s) ?_ ?_
  ·rintro j x Hz Hw hj s hx
   obtain⟨rfl,ex⟩:=hy j Hz x Hw s hx
   rw[rowV_get hj]at ex
   cases ex
   have hb:=fnR_all hall j
   have hb2:fnR r j<m:=by
    have e:fnR r j=r[j]:=by simp[fnR,Yg,hj]
    rw[e];exact hall _ (YF hj)
   walk_at "rd"
   exact Z2 (λ_=>CW.next hj (by rw[Y2 (by omega)]) s) λz=>absurd (by omega) z
  ·intro l H2 s2 zl
   refine⟨l,rfl,List.replicate r.length true,SqL.of (by rw[Zb];congr 2;simp[List.map_const']),Z2 (λz=>?_) λ_=>hR _ _ ⟨rfl,s2.ZJ zl⟩⟩
   exfalso
   have:(List.replicate r.length true).all id=true:=by simp
   rw[this]at z;cases z
 rintro σ H1 ⟨rfl,s1⟩
 refine Zah (fun σ Hy=>∃(a:Fa) (c:Nat->Nat->Nat) (T:List Int),σ=[some (.ref t),some (.int m),some (.ref a.x),none,none]/\Zi (intR r) T/\Hx a.rl=none/\Hx a.o=none/\WaysIs T m c/\FillR mg Hy a T m c []/\Zf Hx Hy) (λR hR=>?_) ?_
 ·walk_at "rd"
  refine⟨t,intR r,rfl,by rw[<-rowV_int];exact s1.q ht,by simp[intR];omega,λu T H2 hT s2 hu x2 dx zx zdx ne=>?_⟩
  have eN:=hT.1
  have eI:(intR r).length=r.length:=by simp[intR]
  have g:=((Zf.refl H2).upd (o:=.own x2) zdx).ZJ (o:=.ins (cFi mg) dx []) (by rw[Zh (Ne.symm ne)];exact zx)
  have s12:=s1.trans s2
  refine⟨x2,dx,u,T,m,rfl,Zb,.inr (hu.same g),⟨by omega,_,hT⟩,by omega,hm,ZbA.same hTb (s12.trans g),λa c H3 ax at' zr zo e2 hW hF=>?_⟩
  subst ax at'
  have sF:Zf Hx H3:=λb o z=>e2 b o (Zo z (s12.free zx)) ((s12.trans g) b o z)
  exact⟨rfl,hR _ _ ⟨a,c,T,rfl,hT,(s12.trans g).free zr,(s12.trans g).free zo,hW,hF,sF⟩⟩
 clear s1 H1
 rintro σ H1 ⟨a,c,T',rfl,hT,zr,zo,hW,hF,s1⟩
 have eN:=hT.1
 have eI:(intR r).length=r.length:=by simp[intR]
 have hRow:=tree_is_row hT hall
 have hG:Zbb T':=⟨by omega,_,hT⟩
 walk_at "rd"
 refine walkL ht s1 λJ hgo hstop hy=>?_
 rw[eR]at hgo hstop
 refine ZcR (n:=r.length) (λk σ Hy=>∃(v4:Option V),σ=[some (.ref t),some (.int m),some (.ref a.x),some (.int ((rkF T' c (fnR r) k:Nat):Int)),v4]/\FillR mg Hy a T' m c (r.take k)/\Zf Hx Hy) ⟨none,rfl,by rw[List.take_zero];exact hF,s1⟩ (λk σ Hy hk ⟨_,_,_,sy⟩=>hgo k Hy sy hk) (fun σ Hy ⟨_,_,_,sy⟩=>hstop Hy sy) ?_ ?_
 ·clear hF s1
  rintro k x σ Hy Hy' hk ⟨v4,rfl,hF,sy⟩ y
  obtain⟨rfl,ex⟩:=hy k Hy x Hy' sy y
  rw[rowV_get hk]at ex
  cases ex
  have hlk:(r.take k).length=k:=by rw[YX];omega
  have hpre:PreOk T' m (fnR r) (k+1):=hRow.2.le (by omega)
  have hab:=hpre.ab hT
  have eab:abV T' m (fnR (r.take k)) (r.take k).length=abV T' m (fnR r) k:=by rw[hlk];exact abV_ext λi hi=>fnR_take hi
  have enw:nW T' c (fnR (r.take k)) (r.take k).length=nW T' c (fnR r) k:=by rw[hlk];exact nW_congr hT (λi hi=>fnR_take hi) (by omega) (up_next hT (by omega))
  have hallk:∀i∈r.take k,i<m:=λi hi=>hall i (List.mem_of_mem_take hi)
  have hm0:0<m:=by have:=(hpre k (by omega)).1;omega
  obtain⟨dx2,fs2,kv2,g1,⟨_,_,_,_,_,j6,_,_,_,_,j11⟩,_⟩:=id hF.1
  walk_at "rd"
  refine⟨dx2,fs2,strip_sub _ _ g1,j11,a,T',m,c,r.take k,rfl,hF,⟨hG,by omega,hm0,hm,hW,hallk,by omega⟩,by omega,λl H2 e2 hF2 hl2=>?_⟩
  rw[eab,enw]at hl2
  refine⟨l,rfl,_,SqL.of (strip_sub _ _ hl2),λp hp=>?_⟩
  have ecut:ZbW (outL (abV T' m (fnR r) k) (nW T' c (fnR r) k)) none (some ((fnR r k:Nat):Int))=((List.range (fnR r k)).map λj=>((nW T' c (fnR r) k j:Nat):Int)).map V.int:=by
   rw[Zoq,<-outInts]
   refine List.ext_getElem (by simp[outL];omega) λj j1 j2=>?_
   simp[outL]
  rw[ecut]
  have g:=(Zf.refl H2).upd (o:=.lst (((List.range (fnR r k)).map λj=>((nW T' c (fnR r) k j:Nat):Int)).map V.int)) hp
  have hF3:=fillR_same hF2 g
  obtain⟨dx3,fs3,kv3,g3,⟨_,_,_,_,_,i6,_⟩,_⟩:=id hF3.1
  have hlr:(rowV (r.take k)).length<sizeLine:=Ys (show _<=12 by simp[rowV];omega) (by decide)
  have eRV:rowV (r.take k)++[V.int ((fnR r k:Nat):Int)]=rowV (r.take (k+1)):=by rw[take_push hk];simp[rowV]
  refine⟨_,SqL.of Zb,dx3,fs3,strip_sub _ _ g3,_,i6,Zam hF3.2,_,rfl,_,hF3.2,hlr,?_,⟨?_,by rw[Zb,eRV]⟩,?_⟩
  ·rw[(sums_rng _ _).2]
   show _=((rkF T' c (fnR r) k+sumTo (nW T' c (fnR r) k) (fnR r k):Nat):Int)
   omega
  ·rw[strip_own,take_push hk]
   exact fillS_grow hT hF3.1 _
  ·have e3:Zf Hx (upd H2 p (.lst (((List.range (fnR r k)).map λj=>((nW T' c (fnR r) k j:Nat):Int)).map V.int))):=λb o z=>g _ _ (e2 b o (Zo z zo) (sy _ _ z))
   exact e3.upd zr
 ·rintro σ Hy ⟨v4,rfl,hF,sy⟩
  walk_at "rd"
  have:=k1 T' Hy hT sy
  rw[<-rk_of hT hW hall,show T'.length=r.length by omega]at this
  exact this
theorem fac_big:ZL 40<2 ^ 400:=by decide +kernel
theorem fac_lt {n:Nat} (h:n<=40):ZL n<2 ^ 400:=Ys (Zi5 h) fac_big
theorem ok__law_times {f:Addr}{fd:FuncData} (F:Fun K "_law_times" "_law_times" s__law_times f fd) (Zbe:Callee P w K mg base "spans_of" 5 ["tree"] (sp_spans_of K mg)) (T:Txt K mg):FnOk P w K mg base (CXE P w) 6 f fd ["tree"] (sp__law_times K mg):=by
 refine F.okX sc__law_times (λvs H Q E h=>?_) (λcdv A outer s H vs Q E hr h=>?_)
 ·obtain⟨t,ns,T,rfl,_⟩:=h;rfl
 obtain⟨t,ns,T',rfl,ht,hT,h40,k1⟩:=h
 refine⟨_,(Zd (Zm (i:=1) sc__law_times.nd rfl (Or.inl rfl) Ze)
   (Zd (Z3 (Zae PassesOwn.never rfl (Zbf (Zj Zbe (hr.mono (by decide)) rfl Zn (Za (pv 0) Zc))) (ZcH (n:=2) rfl (ZE (Zl (i:=2) sc__law_times.nd rfl (Or.inl rfl)) (ZE (Zl (i:=3) sc__law_times.nd rfl (Or.inl rfl)) Za2))) (Zg (Zm (i:=1) sc__law_times.nd rfl (Or.inl rfl) (Zq Zai (pv 1) (Zq ZaX (Zq Zbd (pv 3) (pv 2)) Ze))))))
   (Zg (Zs (pv 1))))),?_⟩
 have eT:=hT.1
 walk_at "rd"
 refine⟨t,T',rfl,ht,by omega,.inl ⟨ns,by omega,hT,λl H1 zl s1 hP=>⟨l,rfl,hP.sq,?_⟩⟩⟩
 obtain⟨w1,w2,w3⟩:=hP.walk (K:=K)
 have hl2:(spanL (nth ns) ns.length).length=ns.length:=by simp[spanL]
 rw[hl2]at w1 w2
 refine ZcR (n:=ns.length) (λi σ Hx=>∃v2 v3:Option V,σ=[some (.ref t),some (.int (prodF (szN (nth ns) ns.length) 0 i:Nat)),v2,v3]/\Zf H1 Hx) ⟨none,none,rfl,Zf.refl _⟩ (λi σ Hx hi ⟨_,_,_,sx⟩=>w1 i Hx sx hi) (fun σ Hx ⟨_,_,_,sx⟩=>w2 Hx sx) ?_ ?_
 ·rintro i x σ Hx Hx' hi ⟨v2,v3,rfl,sx⟩ y
  obtain⟨rfl,a,rfl,ha⟩:=w3 i x Hx Hx' (by omega) sx y
  have es:(spanL (nth ns) ns.length)[i]'(by omega)=[Zax (nth ns) i+1,ZaB (nth ns) ns.length i-1]:=by simp[spanL]
  rw[es]at ha
  have c:=ZR hT hi
  have ez:ZaB (nth ns) ns.length i-1-(Zax (nth ns) i+1)+1=((szN (nth ns) ns.length i:Nat):Int):=by unfold szN;omega
  walk_at "rd"
  refine⟨_,SqT.of ha,rfl,_,_,rfl,_,_,rfl,rfl,_,rfl,_,rfl,by rw[ez];exact mul_r (by unfold szN;omega) (by unfold szN;omega),?_,sx⟩
  rw[ez,show prodF (szN (nth ns) ns.length) 0 (i+1)=prodF (szN (nth ns) ns.length) 0 i*szN (nth ns) ns.length (0+i)from rfl,Nat.zero_add,Int.natCast_mul]
 ·rintro σ Hx ⟨v2,v3,rfl,sx⟩
  walk_at "rd"
  exact k1 _ (s1.trans sx)
theorem ok__law_orders_of_all {f:Addr}{fd:FuncData} (F:Fun K "_law_orders_of_all" "_law_orders_of_all" s__law_orders_of_all f fd) (T:Txt K mg):FnOk P w K mg base (CXE P w) 1 f fd ["n"] (sp__law_orders_of_all K mg):=by
 refine F.okX sc__law_orders_of_all (λvs H Q E h=>?_) (λcdv A outer s H vs Q E hr h=>?_)
 ·obtain⟨n,rfl,_⟩:=h;rfl
 obtain⟨n,rfl,hn,k1⟩:=h
 refine⟨_,(Zd (Zm (i:=1) sc__law_orders_of_all.nd rfl (Or.inl rfl) Ze)
   (Zd (Z3 (Zae PassesOwn.never rfl (ZZ rfl T.b_range (Za (pv 0) Zc)) (Zl (i:=2) sc__law_orders_of_all.nd rfl (Or.inl rfl)) (Zg (Zm (i:=1) sc__law_orders_of_all.nd rfl (Or.inl rfl) (Zq Zai (pv 1) (Zq ZaX (pv 2) Ze))))))
   (Zg (Zs (pv 1))))),?_⟩
 walk_at "rd"
 refine⟨by omega,by omega,?_⟩
 rw[show((n:Nat):Int).toNat=n by omega]
 refine Zas (λi σ Hx=>∃v2,σ=[some (.int n),some (.int (ZL i:Nat)),v2]/\Hx=H) ⟨none,rfl,rfl⟩ ?_ ?_
 ·rintro i σ Hx hi ⟨v2,rfl,rfl⟩
  walk_at "rd"
  refine⟨mul_r (by omega) (by omega),?_,_,rfl⟩
  show((ZL i:Nat):Int)*(0+(i:Int)+1)=((ZL (i+1):Nat):Int)
  simp only[ZL]
  rw[Int.natCast_mul]
  first|(congr 1;omega)|(rw[Int.mul_comm];congr 1;omega)
 ·rintro σ Hx ⟨v2,rfl,rfl⟩
  walk_at "rd"
  exact k1
theorem flat_row {ns T:List Int} (hT:Zi ns T) {m:Nat} (hm:∀q,q<T.length->Zaa T q<m):RowIs T m ((List.range T.length).map (Zaa T)):=by
 have eN:=hT.1
 have hfl:∀p,p<T.length->fnR ((List.range T.length).map (Zaa T)) p=Zaa T p:=λp hp=>by simp[fnR,Yg,hp]
 refine⟨by simp,λq hq=>⟨by rw[hfl q hq];exact hm q hq,λe he=>?_⟩⟩
 rcases way_step hT hq with⟨z,_⟩|⟨e',z,he',zw⟩
 ·omega
 ·have:e'=e:=by omega
  subst this
  have hO:Over (nth ns) e' q:=((Zaq hT (by omega)).mp (by rw[zw];simp)).2
  have h1:=ZcC hT (by omega) (by omega) z hO
  rw[hfl q hq,hfl e' he']
  exact⟨λy=>by rw[Yb (by omega)]at h1;omega,λy _=>by rw[Yc y]at h1;omega⟩
theorem none_iff {ns T:List Int} (hT:Zi ns T) (h40:T.length<=40) {m:Nat}{a:Int} (ha:a∈Zap T) (hall:∀b∈Zap T,b<=a):manyC T m=0↔(m:Int)<=a:=by
 have hlen:=rows_len hT h40 m
 have eF:(Zap T).length=T.length:=ZiU T
 constructor
 ·intro z
  rcases Int.lt_or_le a m with y|y
  ·exfalso
   have hr:=flat_row hT (m:=m) λq hq=>by
    have:=hall _ (nth_mem (ns:=Zap T) (i:=q) (by omega))
    rw[ZbM hq]at this
    omega
   have:=List.length_pos_of_mem ((rowsN_mem hT h40).mpr hr)
   omega
  ·exact y
 ·intro y
  rcases Nat.eq_zero_or_pos (manyC T m)with z|z
  ·exact z
  ·exfalso
   have h0:=(rowsN_mem hT h40).mp (YF (show 0<(rowsN T m).length by omega))
   obtain⟨q,hq,e⟩:=Y1 ha
   have hqT:q<T.length:=by omega
   have h1:=flat_low hT h0.2 _ q hqT (Yd _)
   have h2:=(h0.2 q hqT).1
   have h3:=ZbM hqT
   have e2:nth (Zap T) q=(Zap T)[q]:=by simp[nth,Yg,hq]
   rw[e2,e]at h3
   omega
theorem ok__law_tree_right {f:Addr}{fd:FuncData} (F:Fun K "_law_tree_right" "_law_tree_right" s__law_tree_right f fd) (ZaH:Callee P w K mg base "many_rows" 9 ["tree","m"] (sp_many_rows K mg)) (ZcG:Callee P w K mg base "row_at" 44 ["tree","m","number"] (sp_row_at K mg)) (Ze2:Callee P w K mg base "flattest" 5 ["tree"] (sp_flattest K mg)) (T:Txt K mg):FnOk P w K mg base (CXE P w) 45 f fd ["tree","m"] (sp__law_tree_right K mg):=by
 refine F.okX sc__law_tree_right (λvs H Q E h=>?_) (λcdv A outer s H vs Q E hr h=>?_)
 ·obtain⟨t,ns,T,m,rfl,_⟩:=h;rfl
 obtain⟨t,ns,T',m,rfl,ht,hT,hl,hm,hTb,k1⟩:=h
 refine⟨_,(Zd (Zm (i:=2) sc__law_tree_right.nd rfl (Or.inl rfl) (Zj Ze2 (hr.mono (by decide)) rfl Za3 (Za (pv 0) Zc)))
   (Zd (Z9 (Zx Zke (ZcJ Zgr (Zj ZaH (hr.mono (by decide)) rfl Zn (Za (pv 0) (Za (pv 1) Zc))) Ze (Zz _)) (ZcJ Zmb (Zoy (K:=K) rfl rfl rfl T.b_max (Za (pv 2) Zc) (Zeq (Zbm ZaC Ze) Zhp)) (pv 1) (Zz _)) (Zz _)) (Zg (Zs Zfm)) ZC)
   (Zg (Zs (pe_or (ZcJ Zgr (Zj ZaH (hr.mono (by decide)) rfl Zn (Za (pv 0) (Za (pv 1) Zc))) Ze (Zz _)) (pe_one (ZcJ (Zoj (K:=K) rfl hr) (Zj ZcG (hr.mono (by decide)) rfl Za3 (Za (pv 0) (Za (pv 1) (Za Ze Zc)))) (pv 2) (Zz _)))))))),?_⟩
 have eN:=hT.1
 have h40:T'.length<=40:=by omega
 have hG:Zbb T':=⟨h40,ns,hT⟩
 have hlen:=rows_len hT h40 m
 have tail:∀(H1:Hp) (f:Addr),Zf H H1->H1 f=some (.tup ((Zap T').map V.int))->sp_many_rows K mg [V.ref t,V.int m] H1 (λx_3 H1=>Zji x_3 (V.int 0)=true/\if x_3=V.int 0 then Q (V.bl true) H1 else sp_row_at K mg [V.ref t,V.int m,V.int 0] H1 (λx_4 H1=>∃a,x_4=V.ref a/\∃x_5,V.ref f=V.ref x_5/\∃x_6,EqD K H1 3 x_4 (V.ref f) x_6/\Q (V.bl x_6) H1) E) E0:=λH1 f s1 hf=>by
  refine⟨t,T',m,rfl,ht.same s1,hG,by omega,hm,ZbA.same hTb s1,λc H2 s2 hW=>⟨rfl,Z2 (λ_=>k1 _ (s1.trans s2)) λz=>?_⟩⟩
  rw[many_of hT hW]at z
  have hpos:0<(rowsN T' m).length:=by
   rcases Nat.eq_zero_or_pos (manyC T' m)with y|y
   ·rw[y]at z;exact absurd rfl z
   ·omega
  refine⟨t,T',m,_,rfl,ht.same (s1.trans s2),hG,by omega,hm,ZbA.same hTb (s1.trans s2),λ_ u r H3 zu s3 hR2 hk2 hu=>?_,λw=>absurd ⟨by omega,by omega⟩ w⟩
  have er:r=(rowsN T' m)[0]:=rk_eq hT hR2 ((rowsN_mem hT h40).mp (YF hpos)) (by rw[rows_rk hT h40 0 hpos];omega)
  have e:=Zjt (n:=2) (K:=K) (H:=H3) Zhc (V.ref u) (V.ref f) (intR r) (Zap T') (ZcA (SqT.of (by rw[<-rowV_int];exact hu))) (ZcA (SqT.of (s3 _ _ (s2 _ _ hf))))
  refine⟨u,rfl,f,rfl,_,e,?_⟩
  have:=k1 _ (s1.trans (s2.trans s3))
  rw[er,flat_first hT h40 hpos]
  simpa using this
 walk_at "rd"
 refine⟨t,T',rfl,ht.sq,by omega,λ_ f H1 s1 hf=>⟨t,T',m,rfl,ht.same s1,hG,by omega,hm,ZbA.same hTb s1,λc H2 s2 hW=>⟨rfl,f,rfl,Zap T',SqT.of (s2 _ _ hf),λz=>?_,λz a ha hall=>?_⟩⟩,λz=>absurd hG z⟩
 ·have hn:T'=[]:=by
   have eF:(Zap T').length=T'.length:=ZiU T'
   rw[z]at eF
   exact List.length_eq_zero_iff.mp eF.symm
  refine Z2 (λy=>absurd ?_ y) λ_=>tail H2 f (s1.trans s2) (s2 _ _ hf)
  rw[many_of hT hW,show manyC T' m=1 by unfold manyC topC;rw[Yc hn]]
  rw[decide_eq_decide]
  exact⟨(λw=>by have:=V.int.inj w;omega),(λw=>by omega)⟩
 ·refine Z2 (λy=>absurd ?_ y) λ_=>tail H2 f (s1.trans s2) (s2 _ _ hf)
  rw[many_of hT hW,decide_eq_decide,<-none_iff hT h40 ha hall]
  exact⟨λw=>by have:=V.int.inj w;omega,λw=>by rw[w];rfl⟩
theorem prod_le {ns T:List Int} (hT:Zi ns T) (h:ns.length<=40):IntMulOk ((ZL ns.length / prodF (szN (nth ns) ns.length) 0 ns.length:Nat):Int) ((prodF (szN (nth ns) ns.length) 0 ns.length:Nat):Int):=by
 have h1:=orders_times hT
 have h2:=fac_lt h
 have hp:0<prodF (szN (nth ns) ns.length) 0 ns.length:=(ZgE hT h).1
 refine mulNat (Ys (Nat.div_le_self _ _) h2) ?_
 rcases Nat.eq_zero_or_pos (ZL ns.length / prodF (szN (nth ns) ns.length) 0 ns.length)with z|z
 ·exfalso
  rw[z,Nat.zero_mul]at h1
  have:0<ZL ns.length:=ZkH _
  omega
 ·exact Ys (Yf (Nat.le_mul_of_pos_left _ z) (Y5 h1)) h2
theorem ok_law {f:Addr}{fd:FuncData} (F:Fun K "law" "law" s_law f fd) (ZaM:Callee P w K mg base "tree_of" 2 ["row"] (sp_tree_of K mg)) (ZcX:Callee P w K mg base "many_trees" 5 ["n"] (sp_many_trees K mg)) (Zgg:Callee P w K mg base "tree_at" 3 ["n","number"] (sp_tree_at K mg)) (ZaH:Callee P w K mg base "many_rows" 9 ["tree","m"] (sp_many_rows K mg)) (ZcG:Callee P w K mg base "row_at" 44 ["tree","m","number"] (sp_row_at K mg)) (Zbu:Callee P w K mg base "number_of_row" 44 ["row","m"] (sp_number_of_row K mg)) (ZaT:Callee P w K mg base "many_orders" 6 ["tree"] (sp_many_orders K mg)) (ZdL:Callee P w K mg base "_law_pool" 1 ["script","k"] (sp__law_pool K mg)) (Zw:Callee P w K mg base "_law_pick" 1 ["pool","many"] (sp__law_pick K mg)) (ZdM:Callee P w K mg base "_law_tree" 3 ["pool","most"] (sp__law_tree K mg)) (ZbB:Callee P w K mg base "_law_times" 6 ["tree"] (sp__law_times K mg)) (Z6:Callee P w K mg base "_law_orders_of_all" 1 ["n"] (sp__law_orders_of_all K mg)) (Za6:Callee P w K mg base "_law_tree_right" 45 ["tree","m"] (sp__law_tree_right K mg)) (T:Txt K mg):FnOk P w K mg base (CXE P w) 46 f fd ["script"] (spLaw K mg):=by
 refine F.okX sc_law (λvs H Q E h=>?_) (λcdv A outer s H vs Q E hr h=>?_)
 ·obtain⟨a,ns,rfl,_⟩:=h;rfl
 obtain⟨sc,ss,rfl,hsc,hss,hTb,k1⟩:=h
 have tb0:ZbA K mg "from_below" H:=hTb (ZjC K mg "from_below",lamQ "from_below") (by unfold tabsL;simp)
 refine⟨_,(Zd (Z3 (Zae PassesOwn.never rfl (ZZ rfl T.b_range (Za (Zk (ZfZ rfl) rfl T.b_max Zht (Za Ze (Za (Zk (Zf0 rfl) rfl T.b_min Zhu (Za (Zk (Zp (K:=K) rfl) rfl T.b_len Yv (Za (pv 0) Zc)) (Za Ze Zc))) Zc))) Zc)) (Zl (i:=1) sc_law.nd rfl (Or.inl rfl)) (Zd (Zm (i:=2) sc_law.nd rfl (Or.inr rfl) (Zj ZdL (hr.mono (by decide)) rfl Zn (Za (pv 0) (Za (pv 1) Zc))))
   (Zd (Zm (i:=3) sc_law.nd rfl (Or.inr rfl) (Zj Zw (hr.mono (by decide)) rfl Zn (Za (pv 2) (Za Ze Zc))))
   (Zd (Zm (i:=4) sc_law.nd rfl (Or.inr rfl) (Zj Zw (hr.mono (by decide)) rfl Zn (Za (pv 2) (Za Ze Zc))))
   (Zd (Zfy (i:=5) ["number","n"] [none,some 3] sc_law.nd rfl (Or.inl rfl) rfl rfl rfl (ZZ rfl T.b_range (Za (Zj ZcX (hr.mono (by decide)) rfl Zn (Za (pv 3) Zc)) Zc)) (λ_ _ _ _ _=>(Zl (i:=0) (show(["number","n"]:List Str).Nodup from by decide +kernel) rfl (Or.inl rfl))) (λ_ _ _ _ _=>ZaE) (λ_ _ _ _ _=>(Zj Zgg (hr.mono (by decide)) rfl Zn (Za (pv 1) (Za (pv 0) Zc)))) ZQ)
   (Zd (Zm (i:=6) sc_law.nd rfl (Or.inl rfl) (Zj Z6 (hr.mono (by decide)) rfl Zn (Za (pv 3) Zc)))
   (Zd (Z9 (Zx Zke (Zk (Zfq rfl) rfl T.b_sum Zjp (Za (ZaR ["tree"] [none] rfl rfl rfl (Zbf (pv 5)) (λ_ _ _ _ _=>(Zl (i:=0) (show(["tree"]:List Str).Nodup from by decide +kernel) rfl (Or.inl rfl))) (λ_ _ _ _ _=>ZaE) (λ_ _ _ _ _=>(Zj ZaT (hr.mono (by decide)) rfl Zn (Za (pv 0) Zc))) ZQ) Zc)) (pv 6) (Zz _)) (Zg (Zs Zfm)) ZC)
   (Zd (Zm (i:=7) sc_law.nd rfl (Or.inl rfl) Ze)
   (Zd (Z3 (Zae PassesOwn.never rfl (ZZ rfl T.b_range (Za (pv 3) Zc)) (Zl (i:=8) sc_law.nd rfl (Or.inl rfl)) (Zg (Zm (i:=7) sc_law.nd rfl (Or.inl rfl) (Zq Zai (pv 7) (pv 4))))))
   (Zd (Z9 (Zx Zke (Zk (Zfq rfl) rfl T.b_sum Zjp (Za (ZaR ["tree","m"] [none,some 4] rfl rfl rfl (Zbf (pv 5)) (λ_ _ _ _ _=>(Zl (i:=0) (show(["tree","m"]:List Str).Nodup from by decide +kernel) rfl (Or.inl rfl))) (λ_ _ _ _ _=>ZaE) (λ_ _ _ _ _=>(Zj ZaH (hr.mono (by decide)) rfl Zn (Za (pv 0) (Za (pv 1) Zc)))) ZQ) Zc)) (pv 7) (Zz _)) (Zg (Zs Zfm)) ZC)
   (Zd (Z3 (Zae PassesOwn.never rfl (Zbf (pv 5)) (Zl (i:=9) sc_law.nd rfl (Or.inl rfl)) (Zg (Z9 (PW.pt (Zl6 (Zx Zke (Zq Zai (Zj ZaT (hr.mono (by decide)) rfl Zn (Za (pv 9) Zc)) (Zj ZbB (hr.mono (by decide)) rfl Zn (Za (pv 9) Zc))) (pv 6) (Zz _)) (Zje (Zci (Zhi (Zj Za6 (hr.mono (by decide)) rfl Zn (Za (pv 9) (Za (pv 4) Zc)))))))) (Zg (Zs Zfm)) ZC))))
   (Zd (Zm (i:=10) sc_law.nd rfl (Or.inl rfl) (Zat (ZbK (K:=K) rfl) rfl T.b_tuple ZaQ (Za (ZaR ["turn","pool","m"] [none,some 2,some 4] rfl rfl rfl (ZZ rfl T.b_range (Za (Zq Zai (pv 3) (Zat ZiO rfl T.b_int Zoa (Za (ZcJ ZbY (pv 4) Ze (Zz _)) Zc))) Zc)) (λ_ _ _ _ _=>(Zl (i:=0) (show(["turn","pool","m"]:List Str).Nodup from by decide +kernel) rfl (Or.inl rfl))) (λ_ _ _ _ _=>ZaE) (λ_ _ _ _ _=>(Zj Zw (hr.mono (by decide)) rfl Zn (Za (pv 1) (Za (Zk (ZfZ rfl) rfl T.b_max Zht (Za Ze (Za (pv 2) Zc))) Zc)))) ZQ) Zc)))
   (Zd (Z9 (Zx (Zok (K:=K) rfl hr) (Zj ZcG (hr.mono (by decide)) rfl Zn (Za (Zj ZaM (hr.mono (by decide)) rfl Zn (Za (pv 10) Zc)) (Za (pv 4) (Za (Zj Zbu (hr.mono (by decide)) rfl Zn (Za (pv 10) (Za (pv 4) Zc))) Zc)))) (pv 10) (Zz _)) (Zg (Zs Zfm)) ZC)
   (Zd (Zm (i:=9) sc_law.nd rfl (Or.inl rfl) (Zj ZdM (hr.mono (by decide)) rfl Zn (Za (pv 2) (Za Ze Zc))))
   (Zg (Z9 (Zx Zke (Zq Zai (Zj ZaT (hr.mono (by decide)) rfl Zn (Za (pv 9) Zc)) (Zj ZbB (hr.mono (by decide)) rfl Zn (Za (pv 9) Zc))) (Zj Z6 (hr.mono (by decide)) rfl Zn (Za (Zk (Zp (K:=K) rfl) rfl T.b_len Yv (Za (pv 9) Zc)) Zc)) (Zz _)) (Zg (Zs Zfm)) ZC)))))))))))))))))
   (Zg (Zs Zfm))),?_⟩
 have eS:(ss.map V.int).length=ss.length:=Yi ..
 walk_at "rd"
 refine⟨_,.inl hsc,by rw[eS];split<;>(try split)<;>omega,by rw[eS];split<;>(try split)<;>omega,?_⟩
 generalize hN:(if (if (5:Int)<(((ss.map V.int).length:Nat):Int)then 5 else (((ss.map V.int).length:Nat):Int))>1 then (if (5:Int)<(((ss.map V.int).length:Nat):Int)then 5 else (((ss.map V.int).length:Nat):Int))else 1).toNat=N
 have hN5:N<=5:=by
  rw[<-hN,eS];split<;>(try split)<;>omega
 refine Zas (λi σ H'=>∃v1 v2 v3 v4 v5 v6 v7 v8 v9 v10,σ=[some (.ref sc),v1,v2,v3,v4,v5,v6,v7,v8,v9,v10]/\Zf H H') ⟨_,_,_,_,_,_,_,_,_,_,rfl,Zf.refl H⟩ ?_ ?_
 ·rintro i σ H' hi ⟨v1,v2,v3,v4,v5,v6,v7,v8,v9,v10,rfl,hs⟩
  refine Zah (fun σ Hx=>∃p,σ=[some (.ref sc),some (.int (0+(i:Int))),some (.ref p),v3,v4,v5,v6,v7,v8,v9,v10]/\H p=none/\ZF Hx p/\Zf H Hx) (λR hR=>?_) ?_
  ·walk_at "rd"
   exact⟨sc,ss,_,rfl,hs.seq hsc,by omega,by omega,λp H1 hp s1 P1=>hR _ _ ⟨p,rfl,hs.free hp,P1,hs.trans s1⟩⟩
  rintro σ H1 ⟨p,rfl,zp,P1,s1⟩
  generalize some (V.int (0+(i:Int)))=v1'
  refine Zah (fun σ Hx=>∃n:Nat,σ=[some (.ref sc),v1',some (.ref p),some (.int n),v4,v5,v6,v7,v8,v9,v10]/\n<6/\ZF Hx p/\Zf H Hx) (λR hR=>?_) ?_
  ·walk_at "rd"
   exact⟨p,_,rfl,by decide,by decide,P1,λd H2 d1 d2 P2 e2=>hR _ _ ⟨d.toNat,by rw[show((d.toNat:Nat):Int)=d by omega],by omega,P2,s1.exc zp e2⟩⟩
  clear s1 P1 H1
  rintro σ H1 ⟨n,rfl,hn,P1,s1⟩
  refine Zah (fun σ Hx=>∃m:Nat,σ=[some (.ref sc),v1',some (.ref p),some (.int n),some (.int m),v5,v6,v7,v8,v9,v10]/\m<5/\ZF Hx p/\Zf H Hx) (λR hR=>?_) ?_
  ·walk_at "rd"
   exact⟨p,_,rfl,by decide,by decide,P1,λd H2 d1 d2 P2 e2=>hR _ _ ⟨d.toNat,by rw[show((d.toNat:Nat):Int)=d by omega],by omega,P2,s1.exc zp e2⟩⟩
  clear s1 P1 H1
  rintro σ H1 ⟨m,rfl,hm,P1,s1⟩
  obtain⟨tm1,tm2,tm3⟩:=treeL_many n hn
  have hLl:(treeL n).length=(goN n 0).toNat:=by simp[treeL]
  refine Zah (fun σ Hx=>∃ts,σ=[some (.ref sc),v1',some (.ref p),some (.int n),some (.int m),some (.ref ts),v6,v7,v8,v9,v10]/\TrsAt Hx ts (treeL n)/\ZF Hx p/\Zf H Hx) (λR hR=>?_) ?_
  ·walk_at "rd"
   refine⟨n,rfl,λ_ H2 s2=>⟨_,rfl,by omega,by omega,?_⟩,λz=>absurd ⟨by omega,by omega⟩ z⟩
   rw[tm1]
   refine Zfs (n:=(goN n 0).toNat) (λk acc Hz=>∃as:List Addr,acc=as.map V.ref/\as.length=k/\(∀z (h:z<as.length) (h2:z<(treeL n).length),TupQ Hz as[z] (treeL n)[z])/\Zf H2 Hz) (Ys (show _<=42 by omega) (by decide)) ⟨[],rfl,rfl,(λi h=>absurd h (by simp)),Zf.refl _⟩ (λk acc Hz _ hk=>hk) (λacc Hz _=>Yd _) ?_ ?_
   ·rintro k x acc Hz Hw hk hla ⟨as,rfl,hal,has,sz⟩ ⟨rfl,rfl⟩
    have e3:(0+(k:Int))=k:=by omega
    rw[e3]
    walk_at "rd"
    refine⟨n,k,rfl,λz=>absurd ⟨by omega,by omega⟩ z,λm' e h z=>?_,λm' e h x0 x1 u H3 s3 hu=>?_⟩
    ·have:m'=n:=by omega
     subst this
     exact absurd ⟨by omega,by omega⟩ z
    ·have:m'=n:=by omega
     subst this
     refine CA.take hk hla ⟨as++[u],by simp,by simp[hal],λz h h2=>?_,sz.trans s3⟩
     by_cases e:z<as.length
     ·rw[Y8 e];exact(has z e h2).same s3
     ·have:z=as.length:=by simp at h;omega
      subst this
      simp only[List.getElem_concat_length]
      refine .inl ?_
      simp only[treeL,List.getElem_map,List.getElem_range,hal]
      exact hu
   ·rintro c acc Hz ⟨as,rfl,hal,has,sz⟩ _ hc
    have g:=(Zf.refl Hz).upd (o:=.lst (as.map V.ref)) hc
    exact hR _ _ ⟨c,rfl,⟨as,Zb,by omega,λj a b=>(has j a b).same g⟩,P1.same (s2.trans (sz.trans g)),s1.trans (s2.trans (sz.trans g))⟩
  clear s1 P1 H1
  rintro σ H1 ⟨ts,rfl,hTs,P1,s1⟩
  refine Zah (fun σ Hx=>σ=[some (.ref sc),v1',some (.ref p),some (.int n),some (.int m),some (.ref ts),some (.int (ZL n:Nat)),v7,v8,v9,v10]/\Hx=H1) (λR hR=>?_) ?_
  ·walk_at "rd"
   exact⟨n,rfl,by omega,hR _ _ ⟨rfl,rfl⟩⟩
  rintro σ H1' ⟨rfl,rfl⟩
  refine Zah (fun σ Hx=>σ=[some (.ref sc),v1',some (.ref p),some (.int n),some (.int m),some (.ref ts),some (.int (ZL n:Nat)),v7,v8,v9,v10]/\Zf H1' Hx) (λR hR=>?_) ?_
  ·walk_at "rd"
   obtain⟨w1,w2,w3⟩:=hTs.walk (K:=K)
   refine⟨hTs.sq,?_⟩
   refine comp_map (n:=(treeL n).length) (λj=>V.int (((ZbX n).filter λr=>decide (Zaz r=(treeL n).getD j [])).length:Nat)) (Ys (show _<=42 by omega) (by decide)) (λj Hx s hj=>w1 j Hx s hj) (λHx s=>w2 Hx s) ?_ ?_
   ·rintro j x Hx Hy hj s y
    obtain⟨rfl,a,rfl,ha⟩:=w3 j x Hx Hy hj s y
    obtain⟨r,hrl,hT⟩:=in_tree hn (YF hj)
    have eN:=hT.1
    have er:(treeL n).getD j []=(treeL n)[j]:=by simp[Yg,hj]
    have hsm:=ZkN hT (by omega)
    rw[hrl]at hsm
    walk_at "rd"
    exact⟨a,r,_,rfl,ha.sq,hT,by omega,λH3 s3=>CW.next hj (by rw[hrl,<-hsm,er]) (s.trans s3)⟩
   ·intro lb H3 s3 zl
    refine⟨lb,rfl,(List.range (treeL n).length).map (λj=>((((ZbX n).filter λr=>decide (Zaz r=(treeL n).getD j [])).length:Nat):Int)),SqL.of (by rw[Zb,YU];rfl),Z2 (λz=>absurd ?_ z) λ_=>hR _ _ ⟨rfl,s3.ZJ zl⟩⟩
    rw[sum_getD (treeL n) [] (λT=>((ZbX n).filter λr=>decide (Zaz r=T)).length),orders_all hn]
  rintro σ H2 ⟨rfl,s2⟩
  refine Zah (fun σ Hx=>σ=[some (.ref sc),v1',some (.ref p),some (.int n),some (.int m),some (.ref ts),some (.int (ZL n:Nat)),some (.int 1),v8,v9,v10]/\Hx=H2) (λR hR=>?_) ?_
  ·walk_at "rd"
   exact hR _ _ ⟨rfl,rfl⟩
  rintro σ H2' ⟨rfl,rfl⟩
  refine Zah (fun σ Hx=>∃v8,σ=[some (.ref sc),v1',some (.ref p),some (.int n),some (.int m),some (.ref ts),some (.int (ZL n:Nat)),some (.int (m ^ n:Nat)),v8,v9,v10]/\Hx=H2') (λR hR=>?_) ?_
  ·walk_at "rd"
   refine⟨by omega,by omega,?_⟩
   rw[show((n:Nat):Int).toNat=n by omega]
   refine Zas (λi σ Hx=>∃v8,σ=[some (.ref sc),v1',some (.ref p),some (.int n),some (.int m),some (.ref ts),some (.int (ZL n:Nat)),some (.int (m ^ i:Nat)),v8,v9,v10]/\Hx=H2') ⟨_,rfl,rfl⟩ ?_ ?_
   ·rintro i σ Hx hi ⟨v8,rfl,rfl⟩
    walk_at "rd"
    refine⟨mul_r (by omega) (by omega),?_,_,rfl⟩
    rw[Nat.pow_succ];simp
   ·rintro σ Hx ⟨v8,rfl,rfl⟩
    exact hR _ _ ⟨v8,rfl,rfl⟩
  rintro σ H2 ⟨v8,rfl,rfl⟩
  refine Zah (fun σ Hx=>σ=[some (.ref sc),v1',some (.ref p),some (.int n),some (.int m),some (.ref ts),some (.int (ZL n:Nat)),some (.int (m ^ n:Nat)),v8,v9,v10]/\Zf H1' Hx) (λR hR=>?_) ?_
  ·walk_at "rd"
   obtain⟨w1,w2,w3⟩:=(hTs.same s2).walk (K:=K)
   refine⟨(hTs.same s2).sq,?_⟩
   refine comp_map (n:=(treeL n).length) (λj=>V.int (manyC ((treeL n).getD j []) m:Nat)) (Ys (show _<=42 by omega) (by decide)) (λj Hx s hj=>w1 j Hx s hj) (λHx s=>w2 Hx s) ?_ ?_
   ·rintro j x Hx Hy hj s y
    obtain⟨rfl,a,rfl,ha⟩:=w3 j x Hx Hy hj s y
    obtain⟨r,hrl,hT⟩:=in_tree hn (YF hj)
    have eN:=hT.1
    have er:(treeL n).getD j []=(treeL n)[j]:=by simp[Yg,hj]
    walk_at "rd"
    exact⟨a,_,m,rfl,ha,⟨by omega,r,hT⟩,by omega,by omega,ZbA.same tb0 (s1.trans (s2.trans s)),λc H3 s3 hW=>CW.next hj (by rw[many_of hT hW,er]) (s.trans s3)⟩
   ·intro lb H3 s3 zl
    refine⟨lb,rfl,(List.range (treeL n).length).map (λj=>((manyC ((treeL n).getD j []) m:Nat):Int)),SqL.of (by rw[Zb,YU];rfl),Z2 (λz=>absurd ?_ z) λ_=>hR _ _ ⟨rfl,s2.trans (s3.ZJ zl)⟩⟩
    rw[sum_getD (treeL n) [] (λT=>manyC T m),rows_all hn]
  clear s2 H2
  rintro σ H2 ⟨rfl,s2⟩
  refine Zah (fun σ Hx=>∃v9,σ=[some (.ref sc),v1',some (.ref p),some (.int n),some (.int m),some (.ref ts),some (.int (ZL n:Nat)),some (.int (m ^ n:Nat)),v8,v9,v10]/\Zf H1' Hx) (λR hR=>?_) ?_
  ·walk_at "rd"
   have hTs2:=hTs.same s2
   obtain⟨w1,w2,w3⟩:=hTs2.walk (K:=K)
   refine⟨hTs2.sq,?_⟩
   refine ZcR (n:=(treeL n).length) (λj σ Hx=>∃v9,σ=[some (.ref sc),v1',some (.ref p),some (.int n),some (.int m),some (.ref ts),some (.int (ZL n:Nat)),some (.int (m ^ n:Nat)),v8,v9,v10]/\Zf H2 Hx) ⟨_,rfl,Zf.refl H2⟩ (λj σ Hx hj ⟨_,_,sx⟩=>w1 j Hx sx hj) (fun σ Hx ⟨_,_,sx⟩=>w2 Hx sx) ?_ ?_
   ·rintro j x σ Hx Hx' hj ⟨v9,rfl,sx⟩ y
    obtain⟨rfl,a,rfl,ha⟩:=w3 j x Hx Hx' hj sx y
    obtain⟨r,hrl,hT⟩:=in_tree hn (YF hj)
    have eN:=hT.1
    generalize (treeL n)[j]=T0 at ha hT eN
    walk_at "rd"
    refine⟨a,r,T0,rfl,ha.sq,hT,by omega,λH3 s3=>⟨a,r,T0,rfl,(ha.same s3).sq,hT,by omega,λH4 s4=>⟨_,rfl,_,rfl,prod_le hT (by omega),Z2 (λz=>absurd ?_ z) λ_=>⟨a,r,T0,m,rfl,ha.same (s3.trans s4),hT,by omega,by omega,ZbA.same tb0 (s1.trans (s2.trans (sx.trans (s3.trans s4)))),λH5 s5=>⟨true,rfl,Z2 (λz=>nomatch z) λ_=>sx.trans (s3.trans (s4.trans s5))⟩⟩⟩⟩⟩
    have:=orders_times hT
    rw[hrl]at this⊢
    rw[<-Int.natCast_mul,this]
   ·rintro σ Hx ⟨v9,rfl,sx⟩
    exact hR _ _ ⟨v9,rfl,s2.trans sx⟩
  clear s2 H2
  rintro σ H2 ⟨v9,rfl,s2⟩
  have P2:=P1.same s2
  have s12:=s1.trans s2
  refine Zah (fun σ Hx=>∃(ra:Addr) (r:List Nat),σ=[some (.ref sc),v1',some (.ref p),some (.int n),some (.int m),some (.ref ts),some (.int (ZL n:Nat)),some (.int (m ^ n:Nat)),v8,v9,some (.ref ra)]/\r.length<=5/\(∀i∈r,i<m)/\Hx ra=some (.tup (rowV r))/\ZF Hx p/\Zf H Hx) (λR hR=>?_) ?_
  ·walk_at "rd"
   refine⟨mul_r (by split<;>omega) (by split<;>omega),by split<;>omega,by split<;>omega,?_⟩
   obtain⟨N2,hN2,hN3,hN4⟩:∃N2:Nat,((n:Int)*if 0<(m:Int)then 1 else 0).toNat=N2/\N2<=5/\(0<N2->0<m):=by
    by_cases z:0<(m:Int)
    ·rw[Yc z];exact⟨_,rfl,by omega,λ_=>by omega⟩
    ·rw[Yb z];exact⟨_,rfl,by omega,λy=>by omega⟩
   rw[hN2]
   refine Zfs (n:=N2) (λk acc Hz=>∃r:List Nat,acc=rowV r/\r.length=k/\(∀i∈r,i<m)/\ZF Hz p/\Exc p H2 Hz) (Ys (show _<=1000 by omega) (by decide)) ⟨[],rfl,rfl,(λi h=>nomatch h),P2,λ_ _ _ h=>h⟩ (λk acc Hz _ hk=>hk) (λacc Hz _=>Yd _) ?_ ?_
   ·rintro k x acc Hz Hw hk hla ⟨r,rfl,hrl,hall,Pz,ez⟩ ⟨rfl,rfl⟩
    have hm0:=hN4 (by omega)
    walk_at "rd"
    refine⟨p,_,rfl,by split<;>omega,by split<;>omega,Pz,λd H3 d0 d1 P3 e3=>CA.take hk hla ⟨r++[d.toNat],by simp[rowV,show max d 0=d by omega],by simp[hrl],λj hj=>?_,P3,λb u nn h=>e3 b u nn (ez b u nn h)⟩⟩
    have hdm:d<m:=by
     split at d1<;>omega
    rcases Yz.mp hj with y|y
    ·exact hall j y
    ·simp at y;omega
   ·rintro c acc Hz ⟨r,rfl,hrl,hall,Pz,ez⟩ _ hc
    have sz:Zf H Hz:=s12.exc zp ez
    have g:=(Zf.refl Hz).upd (o:=.lst (rowV r)) hc
    refine⟨c,rfl,_,.inl ⟨SqL.of Zb,λl hl=>hR _ _ ⟨l,r,rfl,by omega,hall,Zb,Pz.same (g.ZJ hl),sz.trans (g.ZJ hl)⟩⟩⟩
  clear s12 P2 s2 H2
  rintro σ H2 ⟨ra,r,rfl,hrl,hall,hra,P2,s2⟩
  refine Zah (fun σ Hx=>σ=[some (.ref sc),v1',some (.ref p),some (.int n),some (.int m),some (.ref ts),some (.int (ZL n:Nat)),some (.int (m ^ n:Nat)),v8,v9,some (.ref ra)]/\ZF Hx p/\Zf H Hx) (λR hR=>?_) ?_
  ·walk_at "rd"
   have eI:(intR r).length=r.length:=by simp[intR]
   refine⟨ra,intR r,rfl,.inr (SqT.of (by rw[<-rowV_int];exact hra)),by omega,λt T0 H3 hT s3 ht=>⟨ra,r,m,rfl,.inr (SqT.of (s3 _ _ hra)),by omega,by omega,hall,ZbA.same tb0 (s2.trans s3),λT1 H4 hT1 s4=>?_⟩⟩
   obtain rfl:=Zi.unique hT1 hT
   have eN:=hT.1
   have hRow:=tree_is_row hT hall
   refine⟨t,T1,m,_,rfl,.inl (ht.same s4),⟨by omega,_,hT⟩,by omega,by omega,ZbA.same tb0 (s2.trans (s3.trans s4)),λ_ u r2 H5 zu s5 hR2 hk2 hu=>?_,λz=>absurd ⟨by omega,by have:=rk_less hT hRow;omega⟩ z⟩
   obtain rfl:=rk_eq hT hR2 hRow (by omega)
   have e:=Zjt (n:=2) (K:=K) (H:=H5) Zhc (V.ref u) (V.ref ra) (intR r2) (intR r2) (ZcA (SqT.of (by rw[<-rowV_int];exact hu))) (ZcA (SqT.of (by rw[<-rowV_int];exact s5 _ _ (s4 _ _ (s3 _ _ hra)))))
   exact⟨u,rfl,_,e,Z2 (λz=>absurd z (by simp)) λ_=>hR _ _ ⟨rfl,P2.same (s3.trans (s4.trans s5)),s2.trans (s3.trans (s4.trans s5))⟩⟩
  clear hra P2 s2 H2
  rintro σ H2 ⟨rfl,P2,s2⟩
  refine Zah (fun σ Hx=>∃(t:Addr) (ns T:List Int),σ=[some (.ref sc),v1',some (.ref p),some (.int n),some (.int m),some (.ref ts),some (.int (ZL n:Nat)),some (.int (m ^ n:Nat)),v8,some (.ref t),some (.ref ra)]/\ns.length<=40/\Zi ns T/\Hx t=some (.tup (T.map V.int))/\Zf H Hx) (λR hR=>?_) ?_
  ·walk_at "rd"
   exact⟨p,40,rfl,by decide,P2,λu es H3 zu hl ⟨ns,hT⟩ hu P3 e3=>hR _ _ ⟨u,ns,es,rfl,by have:=hT.1;omega,hT,hu,s2.exc zp e3⟩⟩
  clear P2 s2 H2
  rintro σ H2 ⟨t,ns,T0,rfl,hn40,hT,ht,s2⟩
  have eL:(T0.map V.int).length=ns.length:=by rw[Yi,hT.1]
  walk_at "rd"
  refine⟨t,ns,T0,rfl,SqT.of ht,hT,hn40,λH3 s3=>⟨t,ns,T0,rfl,SqT.of (s3 _ _ ht),hT,hn40,λH4 s4=>⟨_,rfl,_,rfl,prod_le hT hn40,_,.inr (SqT.of (s4 _ _ (s3 _ _ ht))),ns.length,by rw[eL],hn40,rfl,Z2 (λz=>absurd ?_ z) λ_=>s2.trans (s3.trans s4)⟩⟩⟩
  rw[<-Int.natCast_mul,orders_times hT]
 ·rintro σ H' ⟨v1,v2,v3,v4,v5,v6,v7,v8,v9,v10,rfl,hs⟩
  walk_at "rd"
  exact k1 _
end
theorem all_mk {l:PySem.W.OpenLaw}{w:World}{K:PySem.W.Frag}{h:Heap}{mg:Str->Option Value}{fa:Addr}{ts:List Addr} (X:K.In h) (G:h.Ns mainGlobals mg) (hfa:mg "law"=some (.ref fa))
  {C_Filling:Addr} (n_Filling:nsIn K mainGlobals "Filling"=some (some (.ref C_Filling))) (pg_Filling:PySem.W.plainGet K C_Filling Str.empty=true) (hd_Filling:PySem.W.hasDictIn K C_Filling=true) (po_Filling:PySem.W.plainOver K C_Filling=true) (sa_Filling:PySem.W.findIn K (.ref C_Filling) "__setattr__"=some (some (.builtin "object.__setattr__"))) (mk_Filling:PySem.W.makesIn K C_Filling=true) (kc_Filling:keepIn K (.ref C_Filling)=true)
  (na_Filling_tree:PySem.W.findIn K (.ref C_Filling) "tree"=some none)
  (na_Filling_most:PySem.W.findIn K (.ref C_Filling) "most"=some none)
  (na_Filling_young:PySem.W.findIn K (.ref C_Filling) "young"=some none)
  (na_Filling_spans:PySem.W.findIn K (.ref C_Filling) "spans"=some none)
  (na_Filling_outsides:PySem.W.findIn K (.ref C_Filling) "outsides"=some none)
  (na_Filling_row:PySem.W.findIn K (.ref C_Filling) "row"=some none)
  (ZhU:nsIn K mainGlobals "settle"=some (some (.ref ZkO))) (ZhV:K.lookup ZkO=some ⟨Zty,Ztz,.func (fnOf "settle" "settle" (defArgs s_settle) (defBody s_settle) (defScope s_settle) .none ZtA ZtB ZtC ZtD Znv ZtE),ZtF⟩) (ZhW:codeIn K Znv "settle"=true) (ZfH:keepIn K (.ref ZkO)=true)
  (Zgh:nsIn K mainGlobals "tree_of"=some (some (.ref Zi7))) (Zgi:K.lookup Zi7=some ⟨Zs4,Zs5,.func (fnOf "tree_of" "tree_of" (defArgs s_tree_of) (defBody s_tree_of) (defScope s_tree_of) .none Zs6 Zs7 Zs8 Zs9 ZlL Zta),Ztb⟩) (Zgj:codeIn K ZlL "tree_of"=true) (ZeC:keepIn K (.ref Zi7)=true)
  (ZhX:nsIn K mainGlobals "way_up"=some (some (.ref ZkP))) (ZhY:K.lookup ZkP=some ⟨ZtG,ZtH,.func (fnOf "way_up" "way_up" (defArgs s_way_up) (defBody s_way_up) (defScope s_way_up) .none ZtI ZtJ ZtK ZtL Znw ZtM),ZtN⟩) (ZhZ:codeIn K Znw "way_up"=true) (ZfI:keepIn K (.ref ZkP)=true)
  (Zgk:nsIn K mainGlobals "is_tree"=some (some (.ref Zi8))) (Zgl:K.lookup Zi8=some ⟨Ztc,Ztd,.func (fnOf "is_tree" "is_tree" (defArgs s_is_tree) (defBody s_is_tree) (defScope s_is_tree) .none Zte Ztf Ztg Zth ZlM Zti),Ztj⟩) (Zgm:codeIn K ZlM "is_tree"=true) (ZeD:keepIn K (.ref Zi8)=true)
  (ZdN:nsIn K mainGlobals "need_tree"=some (some (.ref ZgF))) (ZdO:K.lookup ZgF=some ⟨ZqI,ZqJ,.func (fnOf "need_tree" "need_tree" (defArgs s_need_tree) (defBody s_need_tree) (defScope s_need_tree) .none ZqK ZqL ZqM ZqN ZjJ ZqO),ZqP⟩) (ZdP:codeIn K ZjJ "need_tree"=true) (Zb4:keepIn K (.ref ZgF)=true)
  (ZdQ:nsIn K mainGlobals "fences_of"=some (some (.ref ZgG))) (ZdR:K.lookup ZgG=some ⟨ZqQ,ZqR,.func (fnOf "fences_of" "fences_of" (defArgs s_fences_of) (defBody s_fences_of) (defScope s_fences_of) .none ZqS ZqT ZqU ZqV ZjK ZqW),ZqX⟩) (ZdS:codeIn K ZjK "fences_of"=true) (Zb5:keepIn K (.ref ZgG)=true)
  (Ze3:nsIn K mainGlobals "young_of"=some (some (.ref Zh0))) (Ze4:K.lookup Zh0=some ⟨Zsh,Zsi,.func (fnOf "young_of" "young_of" (defArgs s_young_of) (defBody s_young_of) (defScope s_young_of) .none Zsj Zsk Zsl Zsm ZkQ Zsn),Zso⟩) (Ze5:codeIn K ZkQ "young_of"=true) (ZcY:keepIn K (.ref Zh0)=true)
  (ZbC:nsIn K mainGlobals "from_below"=some (some (.ref ZcZ))) (ZbD:K.lookup ZcZ=some ⟨Zpq,Zpr,.func (fnOf "from_below" "from_below" (defArgs s_from_below) (defBody s_from_below) (defScope s_from_below) .none Zps Zpt Zpu Zpv ZeM Zpw),Zpx⟩) (Zc0:codeIn K ZeM "from_below"=true) (ZbE:keepIn K (.ref ZcZ)=true)
  (Zcn:ZeM=.ref Zbg) (Zco:K.lookup Zbg=some ⟨Zpy,Zpz,.fields Zit,ZpA⟩) (Zcp:Zit[11]?=some (.ref Zbh)) (Zbi:PySem.W.codeHdIn K Zbg Zbh=true) (Zcq:K.lookup Zbh=none) (Zcr:Zbh∈ts)
  (Zc1:nsIn K mainGlobals "need_count"=some (some (.ref ZfJ))) (Zc2:K.lookup ZfJ=some ⟨ZpB,ZpC,.func (fnOf "need_count" "need_count" (defArgs s_need_count) (defBody s_need_count) (defScope s_need_count) .none ZpD ZpE ZpF ZpG Ziu ZpH),ZpI⟩) (Zc3:codeIn K Ziu "need_count"=true) (ZbF:keepIn K (.ref ZfJ)=true)
  (ZbT:nsIn K mainGlobals "running_sums"=some (some (.ref ZdT))) (ZbU:K.lookup ZdT=some ⟨ZnK,ZnL,.func (fnOf "running_sums" "running_sums" (defArgs s_running_sums) (defBody s_running_sums) (defScope s_running_sums) .none ZnM ZnN ZnO ZnP Zg6 ZnQ),ZnR⟩) (ZbV:codeIn K Zg6 "running_sums"=true) (Za7:keepIn K (.ref ZdT)=true)
  (Ze6:nsIn K mainGlobals "one_more"=some (some (.ref Zh1))) (Ze7:K.lookup Zh1=some ⟨Zsp,Zsq,.func (fnOf "one_more" "one_more" (defArgs s_one_more) (defBody s_one_more) (defScope s_one_more) .none Zsr Zss Zst Zsu ZkR Zsv),Zsw⟩) (Ze8:codeIn K ZkR "one_more"=true) (Zc4:keepIn K (.ref Zh1)=true)
  (Zh2:nsIn K mainGlobals "climbs"=some (some (.ref ZkS))) (Zh3:K.lookup ZkS=some ⟨ZtO,ZtP,.func (fnOf "climbs" "climbs" (defArgs s_climbs) (defBody s_climbs) (defScope s_climbs) .none ZtQ ZtR ZtS ZtT Znx ZtU),ZtV⟩) (Zh4:codeIn K Znx "climbs"=true) (ZfK:keepIn K (.ref ZkS)=true)
  (Zc5:nsIn K mainGlobals "many_trees"=some (some (.ref ZfL))) (Zc6:K.lookup ZfL=some ⟨ZpJ,ZpK,.func (fnOf "many_trees" "many_trees" (defArgs s_many_trees) (defBody s_many_trees) (defScope s_many_trees) .none ZpL ZpM ZpN ZpO Ziv ZpP),ZpQ⟩) (Zc7:codeIn K Ziv "many_trees"=true) (ZbG:keepIn K (.ref ZfL)=true)
  (ZdU:nsIn K mainGlobals "many_flat"=some (some (.ref ZgH))) (ZdV:K.lookup ZgH=some ⟨ZqY,ZqZ,.func (fnOf "many_flat" "many_flat" (defArgs s_many_flat) (defBody s_many_flat) (defScope s_many_flat) .none Zq0 Zq1 Zq2 Zq3 ZjL Zq4),Zq5⟩) (ZdW:codeIn K ZjL "many_flat"=true) (Zb6:keepIn K (.ref ZgH)=true)
  (Ze9:nsIn K mainGlobals "spans_of"=some (some (.ref Zh5))) (Zfa:K.lookup Zh5=some ⟨Zsx,Zsy,.func (fnOf "spans_of" "spans_of" (defArgs s_spans_of) (defBody s_spans_of) (defScope s_spans_of) .none Zsz ZsA ZsB ZsC ZkT ZsD),ZsE⟩) (Zfb:codeIn K ZkT "spans_of"=true) (Zc8:keepIn K (.ref Zh5)=true)
  (Zc9:nsIn K mainGlobals "need_short"=some (some (.ref ZfM))) (Zda:K.lookup ZfM=some ⟨ZpR,ZpS,.func (fnOf "need_short" "need_short" (defArgs s_need_short) (defBody s_need_short) (defScope s_need_short) .none ZpT ZpU ZpV ZpW Ziw ZpX),ZpY⟩) (Zdb:codeIn K Ziw "need_short"=true) (ZbH:keepIn K (.ref ZfM)=true)
  (Zfc:nsIn K mainGlobals "by_drops"=some (some (.ref Zh6))) (Zfd:K.lookup Zh6=some ⟨ZsF,ZsG,.func (fnOf "by_drops" "by_drops" (defArgs s_by_drops) (defBody s_by_drops) (defScope s_by_drops) .none ZsH ZsI ZsJ ZsK ZkU ZsL),ZsM⟩) (Zfe:codeIn K ZkU "by_drops"=true) (Zdc:keepIn K (.ref Zh6)=true)
  (ZlN:nsIn K mainGlobals "pick"=some (some (.ref ZoZ))) (ZlO:K.lookup ZoZ=some ⟨Zt5,Zt6,.func (fnOf "pick" "pick" (defArgs s_pick) (defBody s_pick) (defScope s_pick) .none Zt7 Zt8 Zt9 Zua Zq6 Zub),Zuc⟩) (ZlP:codeIn K Zq6 "pick"=true) (ZjM:keepIn K (.ref ZoZ)=true)
  (ZdX:nsIn K mainGlobals "goings_on"=some (some (.ref ZgI))) (ZdY:K.lookup ZgI=some ⟨Zq7,Zq8,.func (fnOf "goings_on" "goings_on" (defArgs s_goings_on) (defBody s_goings_on) (defScope s_goings_on) .none Zq9 Zra Zrb Zrc ZjN Zrd),Zre⟩) (ZdZ:codeIn K ZjN "goings_on"=true) (Zb7:keepIn K (.ref ZgI)=true)
  (Zd0:nsIn K mainGlobals "drop_ways"=some (some (.ref ZgJ))) (Zd1:K.lookup ZgJ=some ⟨Zrf,Zrg,.func (fnOf "drop_ways" "drop_ways" (defArgs s_drop_ways) (defBody s_drop_ways) (defScope s_drop_ways) .none Zrh Zri Zrj Zrk ZjO Zrl),Zrm⟩) (Zd2:codeIn K ZjO "drop_ways"=true) (Zb8:keepIn K (.ref ZgJ)=true)
  (Zgn:nsIn K mainGlobals "tree_at"=some (some (.ref Zi9))) (Zgo:K.lookup Zi9=some ⟨Ztk,Ztl,.func (fnOf "tree_at" "tree_at" (defArgs s_tree_at) (defBody s_tree_at) (defScope s_tree_at) .none Ztm Ztn Zto Ztp ZlQ Ztq),Ztr⟩) (Zgp:codeIn K ZlQ "tree_at"=true) (ZeE:keepIn K (.ref Zi9)=true)
  (Zff:nsIn K mainGlobals "need_few"=some (some (.ref Zh7))) (Zfg:K.lookup Zh7=some ⟨ZsN,ZsO,.func (fnOf "need_few" "need_few" (defArgs s_need_few) (defBody s_need_few) (defScope s_need_few) .none ZsP ZsQ ZsR ZsS ZkV ZsT),ZsU⟩) (Zfh:codeIn K ZkV "need_few"=true) (Zdd:keepIn K (.ref Zh7)=true)
  (Zd3:nsIn K mainGlobals "span_ways"=some (some (.ref ZgK))) (Zd4:K.lookup ZgK=some ⟨Zrn,Zro,.func (fnOf "span_ways" "span_ways" (defArgs s_span_ways) (defBody s_span_ways) (defScope s_span_ways) .none Zrp Zrq Zrr Zrs ZjP Zrt),Zru⟩) (Zd5:codeIn K ZjP "span_ways"=true) (Zb9:keepIn K (.ref ZgK)=true)
  {f_Filling___init__:Addr}{od_Filling___init__ an_Filling___init__:Option Addr}{sl_Filling___init__:Array (Option Value)}{oc_Filling___init__ kV_Filling___init__ dc_Filling___init__ pm_Filling___init__ cd_Filling___init__ ct_Filling___init__:Value}
  (a_Filling___init__:PySem.W.findIn K (.ref C_Filling) "__init__"=some (some (.ref f_Filling___init__))) (i_Filling___init__:PySem.W.isFn K (.ref f_Filling___init__)=true) (l_Filling___init__:K.lookup f_Filling___init__=some ⟨oc_Filling___init__,od_Filling___init__,.func (fnOf "__init__" "Filling.__init__" (defArgs s_Filling___init__) (defBody s_Filling___init__) (defScope s_Filling___init__) .none kV_Filling___init__ dc_Filling___init__ pm_Filling___init__ an_Filling___init__ cd_Filling___init__ ct_Filling___init__),sl_Filling___init__⟩) (c_Filling___init__:codeIn K cd_Filling___init__ "Filling.__init__"=true) (k_Filling___init__:keepIn K (.ref f_Filling___init__)=true)
  {f_Filling_how_many_rows:Addr}{od_Filling_how_many_rows an_Filling_how_many_rows:Option Addr}{sl_Filling_how_many_rows:Array (Option Value)}{oc_Filling_how_many_rows kV_Filling_how_many_rows dc_Filling_how_many_rows pm_Filling_how_many_rows cd_Filling_how_many_rows ct_Filling_how_many_rows:Value}
  (a_Filling_how_many_rows:PySem.W.findIn K (.ref C_Filling) "how_many_rows"=some (some (.ref f_Filling_how_many_rows))) (i_Filling_how_many_rows:PySem.W.isFn K (.ref f_Filling_how_many_rows)=true) (l_Filling_how_many_rows:K.lookup f_Filling_how_many_rows=some ⟨oc_Filling_how_many_rows,od_Filling_how_many_rows,.func (fnOf "how_many_rows" "Filling.how_many_rows" (defArgs s_Filling_how_many_rows) (defBody s_Filling_how_many_rows) (defScope s_Filling_how_many_rows) .none kV_Filling_how_many_rows dc_Filling_how_many_rows pm_Filling_how_many_rows an_Filling_how_many_rows cd_Filling_how_many_rows ct_Filling_how_many_rows),sl_Filling_how_many_rows⟩) (c_Filling_how_many_rows:codeIn K cd_Filling_how_many_rows "Filling.how_many_rows"=true) (k_Filling_how_many_rows:keepIn K (.ref f_Filling_how_many_rows)=true)
  {f_Filling_outside_ways:Addr}{od_Filling_outside_ways an_Filling_outside_ways:Option Addr}{sl_Filling_outside_ways:Array (Option Value)}{oc_Filling_outside_ways kV_Filling_outside_ways dc_Filling_outside_ways pm_Filling_outside_ways cd_Filling_outside_ways ct_Filling_outside_ways:Value}
  (a_Filling_outside_ways:PySem.W.findIn K (.ref C_Filling) "outside_ways"=some (some (.ref f_Filling_outside_ways))) (i_Filling_outside_ways:PySem.W.isFn K (.ref f_Filling_outside_ways)=true) (l_Filling_outside_ways:K.lookup f_Filling_outside_ways=some ⟨oc_Filling_outside_ways,od_Filling_outside_ways,.func (fnOf "outside_ways" "Filling.outside_ways" (defArgs s_Filling_outside_ways) (defBody s_Filling_outside_ways) (defScope s_Filling_outside_ways) .none kV_Filling_outside_ways dc_Filling_outside_ways pm_Filling_outside_ways an_Filling_outside_ways cd_Filling_outside_ways ct_Filling_outside_ways),sl_Filling_outside_ways⟩) (c_Filling_outside_ways:codeIn K cd_Filling_outside_ways "Filling.outside_ways"=true) (k_Filling_outside_ways:keepIn K (.ref f_Filling_outside_ways)=true)
  {f_Filling_outside_by_elder:Addr}{od_Filling_outside_by_elder an_Filling_outside_by_elder:Option Addr}{sl_Filling_outside_by_elder:Array (Option Value)}{oc_Filling_outside_by_elder kV_Filling_outside_by_elder dc_Filling_outside_by_elder pm_Filling_outside_by_elder cd_Filling_outside_by_elder ct_Filling_outside_by_elder:Value}
  (a_Filling_outside_by_elder:PySem.W.findIn K (.ref C_Filling) "outside_by_elder"=some (some (.ref f_Filling_outside_by_elder))) (i_Filling_outside_by_elder:PySem.W.isFn K (.ref f_Filling_outside_by_elder)=true) (l_Filling_outside_by_elder:K.lookup f_Filling_outside_by_elder=some ⟨oc_Filling_outside_by_elder,od_Filling_outside_by_elder,.func (fnOf "outside_by_elder" "Filling.outside_by_elder" (defArgs s_Filling_outside_by_elder) (defBody s_Filling_outside_by_elder) (defScope s_Filling_outside_by_elder) .none kV_Filling_outside_by_elder dc_Filling_outside_by_elder pm_Filling_outside_by_elder an_Filling_outside_by_elder cd_Filling_outside_by_elder ct_Filling_outside_by_elder),sl_Filling_outside_by_elder⟩) (c_Filling_outside_by_elder:codeIn K cd_Filling_outside_by_elder "Filling.outside_by_elder"=true) (k_Filling_outside_by_elder:keepIn K (.ref f_Filling_outside_by_elder)=true)
  {f_Filling_onward_ways:Addr}{od_Filling_onward_ways an_Filling_onward_ways:Option Addr}{sl_Filling_onward_ways:Array (Option Value)}{oc_Filling_onward_ways kV_Filling_onward_ways dc_Filling_onward_ways pm_Filling_onward_ways cd_Filling_onward_ways ct_Filling_onward_ways:Value}
  (a_Filling_onward_ways:PySem.W.findIn K (.ref C_Filling) "onward_ways"=some (some (.ref f_Filling_onward_ways))) (i_Filling_onward_ways:PySem.W.isFn K (.ref f_Filling_onward_ways)=true) (l_Filling_onward_ways:K.lookup f_Filling_onward_ways=some ⟨oc_Filling_onward_ways,od_Filling_onward_ways,.func (fnOf "onward_ways" "Filling.onward_ways" (defArgs s_Filling_onward_ways) (defBody s_Filling_onward_ways) (defScope s_Filling_onward_ways) .none kV_Filling_onward_ways dc_Filling_onward_ways pm_Filling_onward_ways an_Filling_onward_ways cd_Filling_onward_ways ct_Filling_onward_ways),sl_Filling_onward_ways⟩) (c_Filling_onward_ways:codeIn K cd_Filling_onward_ways "Filling.onward_ways"=true) (k_Filling_onward_ways:keepIn K (.ref f_Filling_onward_ways)=true)
  {f_Filling_next_ways:Addr}{od_Filling_next_ways an_Filling_next_ways:Option Addr}{sl_Filling_next_ways:Array (Option Value)}{oc_Filling_next_ways kV_Filling_next_ways dc_Filling_next_ways pm_Filling_next_ways cd_Filling_next_ways ct_Filling_next_ways:Value}
  (a_Filling_next_ways:PySem.W.findIn K (.ref C_Filling) "next_ways"=some (some (.ref f_Filling_next_ways))) (i_Filling_next_ways:PySem.W.isFn K (.ref f_Filling_next_ways)=true) (l_Filling_next_ways:K.lookup f_Filling_next_ways=some ⟨oc_Filling_next_ways,od_Filling_next_ways,.func (fnOf "next_ways" "Filling.next_ways" (defArgs s_Filling_next_ways) (defBody s_Filling_next_ways) (defScope s_Filling_next_ways) .none kV_Filling_next_ways dc_Filling_next_ways pm_Filling_next_ways an_Filling_next_ways cd_Filling_next_ways ct_Filling_next_ways),sl_Filling_next_ways⟩) (c_Filling_next_ways:codeIn K cd_Filling_next_ways "Filling.next_ways"=true) (k_Filling_next_ways:keepIn K (.ref f_Filling_next_ways)=true)
  (Zd6:nsIn K mainGlobals "many_rows"=some (some (.ref ZgL))) (Zd7:K.lookup ZgL=some ⟨Zrv,Zrw,.func (fnOf "many_rows" "many_rows" (defArgs s_many_rows) (defBody s_many_rows) (defScope s_many_rows) .none Zrx Zry Zrz ZrA ZjQ ZrB),ZrC⟩) (Zd8:codeIn K ZjQ "many_rows"=true) (Zca:keepIn K (.ref ZgL)=true)
  (Zh8:nsIn K mainGlobals "row_at"=some (some (.ref ZkW))) (Zh9:K.lookup ZkW=some ⟨ZtW,ZtX,.func (fnOf "row_at" "row_at" (defArgs s_row_at) (defBody s_row_at) (defScope s_row_at) .none ZtY ZtZ Zt0 Zt1 Zny Zt2),Zt3⟩) (Zia:codeIn K Zny "row_at"=true) (ZfN:keepIn K (.ref ZkW)=true)
  (Zbv:nsIn K mainGlobals "number_of_row"=some (some (.ref Zdl))) (Zbw:K.lookup Zdl=some ⟨Znz,ZnA,.func (fnOf "number_of_row" "number_of_row" (defArgs s_number_of_row) (defBody s_number_of_row) (defScope s_number_of_row) .none ZnB ZnC ZnD ZnE Zgq ZnF),ZnG⟩) (Zbx:codeIn K Zgq "number_of_row"=true) (ZaW:keepIn K (.ref Zdl)=true)
  (Zcs:nsIn K mainGlobals "many_orders"=some (some (.ref ZeN))) (Zct:K.lookup ZeN=some ⟨Zo0,Zo1,.func (fnOf "many_orders" "many_orders" (defArgs s_many_orders) (defBody s_many_orders) (defScope s_many_orders) .none Zo2 Zo3 Zo4 Zo5 Zib Zo6),Zo7⟩) (Zcu:codeIn K Zib "many_orders"=true) (Zbj:keepIn K (.ref ZeN)=true)
  (Zcv:nsIn K mainGlobals "flat_number"=some (some (.ref ZeO))) (Zcw:K.lookup ZeO=some ⟨Zo8,Zo9,.func (fnOf "flat_number" "flat_number" (defArgs s_flat_number) (defBody s_flat_number) (defScope s_flat_number) .none Zpa Zpb Zpc Zpd Zic Zpe),Zpf⟩) (Zcx:codeIn K Zic "flat_number"=true) (Zbk:keepIn K (.ref ZeO)=true)
  (Zfi:nsIn K mainGlobals "flattest"=some (some (.ref Zid))) (Zfj:K.lookup Zid=some ⟨ZsV,ZsW,.func (fnOf "flattest" "flattest" (defArgs s_flattest) (defBody s_flattest) (defScope s_flattest) .none ZsX ZsY ZsZ Zs0 ZkX Zs1),Zs2⟩) (Zfk:codeIn K ZkX "flattest"=true) (Zde:keepIn K (.ref Zid)=true)
  (Zd9:nsIn K mainGlobals "_law_pool"=some (some (.ref ZgM))) (Zea:K.lookup ZgM=some ⟨ZrD,ZrE,.func (fnOf "_law_pool" "_law_pool" (defArgs s__law_pool) (defBody s__law_pool) (defScope s__law_pool) .none ZrF ZrG ZrH ZrI ZjR ZrJ),ZrK⟩) (Zeb:codeIn K ZjR "_law_pool"=true) (Zcb:keepIn K (.ref ZgM)=true)
  (Zec:nsIn K mainGlobals "_law_pick"=some (some (.ref ZgN))) (Zed:K.lookup ZgN=some ⟨ZrL,ZrM,.func (fnOf "_law_pick" "_law_pick" (defArgs s__law_pick) (defBody s__law_pick) (defScope s__law_pick) .none ZrN ZrO ZrP ZrQ ZjS ZrR),ZrS⟩) (Zee:codeIn K ZjS "_law_pick"=true) (Zcc:keepIn K (.ref ZgN)=true)
  (Zef:nsIn K mainGlobals "_law_size"=some (some (.ref ZgO))) (Zeg:K.lookup ZgO=some ⟨ZrT,ZrU,.func (fnOf "_law_size" "_law_size" (defArgs s__law_size) (defBody s__law_size) (defScope s__law_size) .none ZrV ZrW ZrX ZrY ZjT ZrZ),Zr0⟩) (Zeh:codeIn K ZjT "_law_size"=true) (Zcd:keepIn K (.ref ZgO)=true)
  (Zdf:nsIn K mainGlobals "_law_drops"=some (some (.ref ZfO))) (Zdg:K.lookup ZfO=some ⟨ZpZ,Zp0,.func (fnOf "_law_drops" "_law_drops" (defArgs s__law_drops) (defBody s__law_drops) (defScope s__law_drops) .none Zp1 Zp2 Zp3 Zp4 Zix Zp5),Zp6⟩) (Zdh:codeIn K Zix "_law_drops"=true) (ZbI:keepIn K (.ref ZfO)=true)
  (Zei:nsIn K mainGlobals "_law_hung"=some (some (.ref ZgP))) (Zej:K.lookup ZgP=some ⟨Zr1,Zr2,.func (fnOf "_law_hung" "_law_hung" (defArgs s__law_hung) (defBody s__law_hung) (defScope s__law_hung) .none Zr3 Zr4 Zr5 Zr6 ZjU Zr7),Zr8⟩) (Zek:codeIn K ZjU "_law_hung"=true) (Zce:keepIn K (.ref ZgP)=true)
  (Zel:nsIn K mainGlobals "_law_tree"=some (some (.ref ZgQ))) (Zem:K.lookup ZgQ=some ⟨Zr9,Zsa,.func (fnOf "_law_tree" "_law_tree" (defArgs s__law_tree) (defBody s__law_tree) (defScope s__law_tree) .none Zsb Zsc Zsd Zse ZjV Zsf),Zsg⟩) (Zen:codeIn K ZjV "_law_tree"=true) (Zcf:keepIn K (.ref ZgQ)=true)
  (Zdi:nsIn K mainGlobals "_law_times"=some (some (.ref ZfP))) (Zdj:K.lookup ZfP=some ⟨Zp7,Zp8,.func (fnOf "_law_times" "_law_times" (defArgs s__law_times) (defBody s__law_times) (defScope s__law_times) .none Zp9 Zqa Zqb Zqc Ziy Zqd),Zqe⟩) (Zdk:codeIn K Ziy "_law_times"=true) (ZbJ:keepIn K (.ref ZfP)=true)
  (ZaI:nsIn K mainGlobals "_law_orders_of_all"=some (some (.ref Zbs))) (ZaJ:K.lookup Zbs=some ⟨Zj3,Zj4,.func (fnOf "_law_orders_of_all" "_law_orders_of_all" (defArgs s__law_orders_of_all) (defBody s__law_orders_of_all) (defScope s__law_orders_of_all) .none Zj5 Zj6 Zj7 Zj8 Zdo Zj9),Zka⟩) (ZaK:codeIn K Zdo "_law_orders_of_all"=true) (Z7:keepIn K (.ref Zbs)=true)
  (Za8:nsIn K mainGlobals "_law_tree_right"=some (some (.ref Zcg))) (Za9:K.lookup Zcg=some ⟨ZlR,ZlS,.func (fnOf "_law_tree_right" "_law_tree_right" (defArgs s__law_tree_right) (defBody s__law_tree_right) (defScope s__law_tree_right) .none ZlT ZlU ZlV ZlW Zfl ZlX),ZlY⟩) (Zba:codeIn K Zfl "_law_tree_right"=true) (ZaA:keepIn K (.ref Zcg)=true)
  (Zpg:nsIn K mainGlobals "law"=some (some (.ref Zs3))) (Zph:K.lookup Zs3=some ⟨Zud,Zue,.func (fnOf "law" "law" (defArgs s_law) (defBody s_law) (defScope s_law) .none Zts Ztt Ztu Ztv Zpi Ztw),Zuf⟩) (Zpj:codeIn K Zpi "law"=true) (Zpk:keepIn K (.ref Zs3)=true)
  {C_DipError:Addr} (n_DipError:nsIn K mainGlobals "DipError"=some (some (.ref C_DipError))) (x_DipError:PySem.W.excIn K C_DipError bmV newV=true) (d_DipError:PySem.W.hasDictIn K C_DipError=true) (y_DipError:PySem.W.typeIn K (.ref C_DipError)=some (.type "type"))
  {C_TooMany:Addr} (n_TooMany:nsIn K mainGlobals "TooMany"=some (some (.ref C_TooMany))) (x_TooMany:PySem.W.excIn K C_TooMany bmV newV=true) (d_TooMany:PySem.W.hasDictIn K C_TooMany=true) (y_TooMany:PySem.W.typeIn K (.ref C_TooMany)=some (.type "type"))
  {C_NoTree:Addr} (n_NoTree:nsIn K mainGlobals "NoTree"=some (some (.ref C_NoTree))) (x_NoTree:PySem.W.excIn K C_NoTree bmV newV=true) (d_NoTree:PySem.W.hasDictIn K C_NoTree=true) (y_NoTree:PySem.W.typeIn K (.ref C_NoTree)=some (.type "type"))
  {C_NoTelling:Addr} (n_NoTelling:nsIn K mainGlobals "NoTelling"=some (some (.ref C_NoTelling))) (x_NoTelling:PySem.W.excIn K C_NoTelling bmV newV=true) (d_NoTelling:PySem.W.hasDictIn K C_NoTelling=true) (y_NoTelling:PySem.W.typeIn K (.ref C_NoTelling)=some (.type "type"))
  {C_NoNumber:Addr} (n_NoNumber:nsIn K mainGlobals "NoNumber"=some (some (.ref C_NoNumber))) (x_NoNumber:PySem.W.excIn K C_NoNumber bmV newV=true) (d_NoNumber:PySem.W.hasDictIn K C_NoNumber=true) (y_NoNumber:PySem.W.typeIn K (.ref C_NoNumber)=some (.type "type"))
  (b_all:nsIn K mainGlobals "all"=some none)
  (b_enumerate:nsIn K mainGlobals "enumerate"=some none)
  (b_int:nsIn K mainGlobals "int"=some none)
  (b_isinstance:nsIn K mainGlobals "isinstance"=some none)
  (b_len:nsIn K mainGlobals "len"=some none)
  (b_max:nsIn K mainGlobals "max"=some none)
  (b_min:nsIn K mainGlobals "min"=some none)
  (b_range:nsIn K mainGlobals "range"=some none)
  (b_reversed:nsIn K mainGlobals "reversed"=some none)
  (b_sorted:nsIn K mainGlobals "sorted"=some none)
  (b_sum:nsIn K mainGlobals "sum"=some none)
  (b_tuple:nsIn K mainGlobals "tuple"=some none)
  {t_MOST_PLACES:Tok} (m_MOST_PLACES:nsIn K mainGlobals "MOST_PLACES"=some (some (.int 40 t_MOST_PLACES)))
  {t_MOST_FILLED:Tok} (m_MOST_FILLED:nsIn K mainGlobals "MOST_FILLED"=some (some (.int 12 t_MOST_FILLED)))
  (nd:[Zbh].Nodup)
  : ∃fd:FuncData,(∀(s:Shared) (v:Value),BindsTo s fd ⟨[v],[]⟩ [("script",v)])/\(∀p∈tabsL K mg,p.1∈ts/\K.lookup p.1=none/\∃c,PySem.W.codeHdIn K c p.1=true)/\((tabsL K mg).map (·.1)).Nodup/\∀base:Heap,K.In base->base.Ns mainGlobals mg->BM mg base->FnOk l.prog w K mg base (CXE l.prog w) 46 fa fd ["script"] (spLaw K mg):=by
 have e:=hfa.symm.trans (mg_of X G Zpg)
 cases e
 have q_DipError:clsAt mg "DipError"=C_DipError:=by unfold clsAt;rw[mg_of X G n_DipError]
 have q_TooMany:clsAt mg "TooMany"=C_TooMany:=by unfold clsAt;rw[mg_of X G n_TooMany]
 have q_NoTree:clsAt mg "NoTree"=C_NoTree:=by unfold clsAt;rw[mg_of X G n_NoTree]
 have q_NoTelling:clsAt mg "NoTelling"=C_NoTelling:=by unfold clsAt;rw[mg_of X G n_NoTelling]
 have q_NoNumber:clsAt mg "NoNumber"=C_NoNumber:=by unfold clsAt;rw[mg_of X G n_NoNumber]
 have q_Filling:clsAt mg "Filling"=C_Filling:=by unfold clsAt;rw[mg_of X G n_Filling]
 have q_MOST_PLACES:tokAt mg "MOST_PLACES"=t_MOST_PLACES:=by unfold tokAt;rw[mg_of X G m_MOST_PLACES]
 have q_MOST_FILLED:tokAt mg "MOST_FILLED"=t_MOST_FILLED:=by unfold tokAt;rw[mg_of X G m_MOST_FILLED]
 have T:Txt K mg:={
  b_all:=mg_none_of X G b_all
  b_enumerate:=mg_none_of X G b_enumerate
  b_int:=mg_none_of X G b_int
  b_isinstance:=mg_none_of X G b_isinstance
  b_len:=mg_none_of X G b_len
  b_max:=mg_none_of X G b_max
  b_min:=mg_none_of X G b_min
  b_range:=mg_none_of X G b_range
  b_reversed:=mg_none_of X G b_reversed
  b_sorted:=mg_none_of X G b_sorted
  b_sum:=mg_none_of X G b_sum
  b_tuple:=mg_none_of X G b_tuple
  c_DipError:=by rw[q_DipError];exact mg_of X G n_DipError
  x_DipError:=by rw[q_DipError];exact x_DipError
  c_TooMany:=by rw[q_TooMany];exact mg_of X G n_TooMany
  x_TooMany:=by rw[q_TooMany];exact x_TooMany
  c_NoTree:=by rw[q_NoTree];exact mg_of X G n_NoTree
  x_NoTree:=by rw[q_NoTree];exact x_NoTree
  c_NoTelling:=by rw[q_NoTelling];exact mg_of X G n_NoTelling
  x_NoTelling:=by rw[q_NoTelling];exact x_NoTelling
  c_NoNumber:=by rw[q_NoNumber];exact mg_of X G n_NoNumber
  x_NoNumber:=by rw[q_NoNumber];exact x_NoNumber
  c_Filling:=by rw[q_Filling];exact mg_of X G n_Filling
  cl_Filling:=by rw[q_Filling];exact⟨pg_Filling,hd_Filling,po_Filling,sa_Filling⟩
  n_Filling_tree:=by rw[q_Filling];exact na_Filling_tree
  n_Filling_most:=by rw[q_Filling];exact na_Filling_most
  n_Filling_young:=by rw[q_Filling];exact na_Filling_young
  n_Filling_spans:=by rw[q_Filling];exact na_Filling_spans
  n_Filling_outsides:=by rw[q_Filling];exact na_Filling_outsides
  n_Filling_row:=by rw[q_Filling];exact na_Filling_row
  m_MOST_PLACES:=by rw[q_MOST_PLACES];exact mg_of X G m_MOST_PLACES
  m_MOST_FILLED:=by rw[q_MOST_FILLED];exact mg_of X G m_MOST_FILLED
 }
 subst Zcn
 have Zav:=ZqG (mg_of X G ZbC) ZbD rfl Zco Zcp
 have ZjW:LamD K mg "from_below" ZcZ:=⟨Zbg,Zav.2,by rw[Zav.1];exact Zbi⟩
 have ZkY:=Zt (st:=s_settle) ZhV ZhW ZfH
 have Zpl:=ZkY.binds (ps:=["elders","spine","place","keep"]) λ_ _ _ _ _ _ us hl=>by obtain⟨x0,u0,rfl,h0⟩:=le1 hl;obtain⟨x1,u1,rfl,h1⟩:=le1 h0;obtain⟨x2,u2,rfl,h2⟩:=le1 h1;obtain⟨x3,u3,rfl,h3⟩:=le1 h2;obtain rfl:=le0 h3;exact rfl
 have Zja:=Zt (st:=s_tree_of) Zgi Zgj ZeC
 have ZnH:=Zja.binds (ps:=["row"]) λ_ _ _ _ _ _ us hl=>by obtain⟨x0,u0,rfl,h0⟩:=le1 hl;obtain rfl:=le0 h0;exact rfl
 have ZkZ:=Zt (st:=s_way_up) ZhY ZhZ ZfI
 have Zpm:=ZkZ.binds (ps:=["tree","place"]) λ_ _ _ _ _ _ us hl=>by obtain⟨x0,u0,rfl,h0⟩:=le1 hl;obtain⟨x1,u1,rfl,h1⟩:=le1 h0;obtain rfl:=le0 h1;exact rfl
 have Zjb:=Zt (st:=s_is_tree) Zgl Zgm ZeD
 have ZnI:=Zjb.binds (ps:=["tree"]) λ_ _ _ _ _ _ us hl=>by obtain⟨x0,u0,rfl,h0⟩:=le1 hl;obtain rfl:=le0 h0;exact rfl
 have ZgR:=Zt (st:=s_need_tree) ZdO ZdP Zb4
 have Zk0:=ZgR.binds (ps:=["tree"]) λ_ _ _ _ _ _ us hl=>by obtain⟨x0,u0,rfl,h0⟩:=le1 hl;obtain rfl:=le0 h0;exact rfl
 have ZgS:=Zt (st:=s_fences_of) ZdR ZdS Zb5
 have Zk1:=ZgS.binds (ps:=["tree"]) λ_ _ _ _ _ _ us hl=>by obtain⟨x0,u0,rfl,h0⟩:=le1 hl;obtain rfl:=le0 h0;exact rfl
 have Zie:=Zt (st:=s_young_of) Ze4 Ze5 ZcY
 have ZlZ:=Zie.binds (ps:=["tree"]) λ_ _ _ _ _ _ us hl=>by obtain⟨x0,u0,rfl,h0⟩:=le1 hl;obtain rfl:=le0 h0;exact rfl
 have ZfQ:=Zt (st:=s_from_below) ZbD Zc0 ZbE
 have ZjX:=ZfQ.binds (ps:=["tree"]) λ_ _ _ _ _ _ us hl=>by obtain⟨x0,u0,rfl,h0⟩:=le1 hl;obtain rfl:=le0 h0;exact rfl
 have ZfR:=Zt (st:=s_need_count) Zc2 Zc3 ZbF
 have ZjY:=ZfR.binds (ps:=["n"]) λ_ _ _ _ _ _ us hl=>by obtain⟨x0,u0,rfl,h0⟩:=le1 hl;obtain rfl:=le0 h0;exact rfl
 have Zeo:=Zt (st:=s_running_sums) ZbU ZbV Za7
 have Zif:=Zeo.binds (ps:=["numbers"]) λ_ _ _ _ _ _ us hl=>by obtain⟨x0,u0,rfl,h0⟩:=le1 hl;obtain rfl:=le0 h0;exact rfl
 have Zig:=Zt (st:=s_one_more) Ze7 Ze8 Zc4
 have Zl0:=Zig.binds (ps:=["ends"]) λ_ _ _ _ _ _ us hl=>by obtain⟨x0,u0,rfl,h0⟩:=le1 hl;obtain rfl:=le0 h0;exact rfl
 have Zk2:=Zt (st:=s_climbs) Zh3 Zh4 ZfK
 have Zpn:=Zk2.binds (ps:=["n","most"]) λ_ _ _ _ _ _ us hl=>by obtain⟨x0,u0,rfl,h0⟩:=le1 hl;obtain⟨x1,u1,rfl,h1⟩:=le1 h0;obtain rfl:=le0 h1;exact rfl
 have ZfS:=Zt (st:=s_many_trees) Zc6 Zc7 ZbG
 have ZjZ:=ZfS.binds (ps:=["n"]) λ_ _ _ _ _ _ us hl=>by obtain⟨x0,u0,rfl,h0⟩:=le1 hl;obtain rfl:=le0 h0;exact rfl
 have ZgT:=Zt (st:=s_many_flat) ZdV ZdW Zb6
 have Zk3:=ZgT.binds (ps:=["n","most"]) λ_ _ _ _ _ _ us hl=>by obtain⟨x0,u0,rfl,h0⟩:=le1 hl;obtain⟨x1,u1,rfl,h1⟩:=le1 h0;obtain rfl:=le0 h1;exact rfl
 have Zih:=Zt (st:=s_spans_of) Zfa Zfb Zc8
 have Zl1:=Zih.binds (ps:=["tree"]) λ_ _ _ _ _ _ us hl=>by obtain⟨x0,u0,rfl,h0⟩:=le1 hl;obtain rfl:=le0 h0;exact rfl
 have ZfT:=Zt (st:=s_need_short) Zda Zdb ZbH
 have Zj0:=ZfT.binds (ps:=["told"]) λ_ _ _ _ _ _ us hl=>by obtain⟨x0,u0,rfl,h0⟩:=le1 hl;obtain rfl:=le0 h0;exact rfl
 have Zii:=Zt (st:=s_by_drops) Zfd Zfe Zdc
 have Zl2:=Zii.binds (ps:=["told"]) λ_ _ _ _ _ _ us hl=>by obtain⟨x0,u0,rfl,h0⟩:=le1 hl;obtain rfl:=le0 h0;exact rfl
 have Zpo:=Zt (st:=s_pick) ZlO ZlP ZjM
 have Ztx:=Zpo.binds (ps:=["ways","number"]) λ_ _ _ _ _ _ us hl=>by obtain⟨x0,u0,rfl,h0⟩:=le1 hl;obtain⟨x1,u1,rfl,h1⟩:=le1 h0;obtain rfl:=le0 h1;exact rfl
 have ZgU:=Zt (st:=s_goings_on) ZdY ZdZ Zb7
 have Zk4:=ZgU.binds (ps:=["n"]) λ_ _ _ _ _ _ us hl=>by obtain⟨x0,u0,rfl,h0⟩:=le1 hl;obtain rfl:=le0 h0;exact rfl
 have ZgV:=Zt (st:=s_drop_ways) Zd1 Zd2 Zb8
 have Zk5:=ZgV.binds (ps:=["goings","still"]) λ_ _ _ _ _ _ us hl=>by obtain⟨x0,u0,rfl,h0⟩:=le1 hl;obtain⟨x1,u1,rfl,h1⟩:=le1 h0;obtain rfl:=le0 h1;exact rfl
 have Zjc:=Zt (st:=s_tree_at) Zgo Zgp ZeE
 have ZnJ:=Zjc.binds (ps:=["n","number"]) λ_ _ _ _ _ _ us hl=>by obtain⟨x0,u0,rfl,h0⟩:=le1 hl;obtain⟨x1,u1,rfl,h1⟩:=le1 h0;obtain rfl:=le0 h1;exact rfl
 have Zij:=Zt (st:=s_need_few) Zfg Zfh Zdd
 have Zl3:=Zij.binds (ps:=["many","m"]) λ_ _ _ _ _ _ us hl=>by obtain⟨x0,u0,rfl,h0⟩:=le1 hl;obtain⟨x1,u1,rfl,h1⟩:=le1 h0;obtain rfl:=le0 h1;exact rfl
 have ZgW:=Zt (st:=s_span_ways) Zd4 Zd5 Zb9
 have Zk6:=ZgW.binds (ps:=["tree","young","m"]) λ_ _ _ _ _ _ us hl=>by obtain⟨x0,u0,rfl,h0⟩:=le1 hl;obtain⟨x1,u1,rfl,h1⟩:=le1 h0;obtain⟨x2,u2,rfl,h2⟩:=le1 h1;obtain rfl:=le0 h2;exact rfl
 have F_Filling___init__:=Zt (st:=s_Filling___init__) l_Filling___init__ c_Filling___init__ k_Filling___init__
 have B_Filling___init__:=F_Filling___init__.binds (ps:=["self","tree","m"]) λ_ _ _ _ _ _ us hl=>by obtain⟨x0,u0,rfl,h0⟩:=le1 hl;obtain⟨x1,u1,rfl,h1⟩:=le1 h0;obtain⟨x2,u2,rfl,h2⟩:=le1 h1;obtain rfl:=le0 h2;exact rfl
 have F_Filling_how_many_rows:=Zt (st:=s_Filling_how_many_rows) l_Filling_how_many_rows c_Filling_how_many_rows k_Filling_how_many_rows
 have B_Filling_how_many_rows:=F_Filling_how_many_rows.binds (ps:=["self"]) λ_ _ _ _ _ _ us hl=>by obtain⟨x0,u0,rfl,h0⟩:=le1 hl;obtain rfl:=le0 h0;exact rfl
 have F_Filling_outside_ways:=Zt (st:=s_Filling_outside_ways) l_Filling_outside_ways c_Filling_outside_ways k_Filling_outside_ways
 have B_Filling_outside_ways:=F_Filling_outside_ways.binds (ps:=["self","place"]) λ_ _ _ _ _ _ us hl=>by obtain⟨x0,u0,rfl,h0⟩:=le1 hl;obtain⟨x1,u1,rfl,h1⟩:=le1 h0;obtain rfl:=le0 h1;exact rfl
 have F_Filling_outside_by_elder:=Zt (st:=s_Filling_outside_by_elder) l_Filling_outside_by_elder c_Filling_outside_by_elder k_Filling_outside_by_elder
 have B_Filling_outside_by_elder:=F_Filling_outside_by_elder.binds (ps:=["self","place","elder"]) λ_ _ _ _ _ _ us hl=>by obtain⟨x0,u0,rfl,h0⟩:=le1 hl;obtain⟨x1,u1,rfl,h1⟩:=le1 h0;obtain⟨x2,u2,rfl,h2⟩:=le1 h1;obtain rfl:=le0 h2;exact rfl
 have F_Filling_onward_ways:=Zt (st:=s_Filling_onward_ways) l_Filling_onward_ways c_Filling_onward_ways k_Filling_onward_ways
 have B_Filling_onward_ways:=F_Filling_onward_ways.binds (ps:=["self","place"]) λ_ _ _ _ _ _ us hl=>by obtain⟨x0,u0,rfl,h0⟩:=le1 hl;obtain⟨x1,u1,rfl,h1⟩:=le1 h0;obtain rfl:=le0 h1;exact rfl
 have F_Filling_next_ways:=Zt (st:=s_Filling_next_ways) l_Filling_next_ways c_Filling_next_ways k_Filling_next_ways
 have B_Filling_next_ways:=F_Filling_next_ways.binds (ps:=["self"]) λ_ _ _ _ _ _ us hl=>by obtain⟨x0,u0,rfl,h0⟩:=le1 hl;obtain rfl:=le0 h0;exact rfl
 have ZgX:=Zt (st:=s_many_rows) Zd7 Zd8 Zca
 have Zk7:=ZgX.binds (ps:=["tree","m"]) λ_ _ _ _ _ _ us hl=>by obtain⟨x0,u0,rfl,h0⟩:=le1 hl;obtain⟨x1,u1,rfl,h1⟩:=le1 h0;obtain rfl:=le0 h1;exact rfl
 have Zk8:=Zt (st:=s_row_at) Zh9 Zia ZfN
 have Zpp:=Zk8.binds (ps:=["tree","m","number"]) λ_ _ _ _ _ _ us hl=>by obtain⟨x0,u0,rfl,h0⟩:=le1 hl;obtain⟨x1,u1,rfl,h1⟩:=le1 h0;obtain⟨x2,u2,rfl,h2⟩:=le1 h1;obtain rfl:=le0 h2;exact rfl
 have Zdm:=Zt (st:=s_number_of_row) Zbw Zbx ZaW
 have Zg7:=Zdm.binds (ps:=["row","m"]) λ_ _ _ _ _ _ us hl=>by obtain⟨x0,u0,rfl,h0⟩:=le1 hl;obtain⟨x1,u1,rfl,h1⟩:=le1 h0;obtain rfl:=le0 h1;exact rfl
 have ZeP:=Zt (st:=s_many_orders) Zct Zcu Zbj
 have Ziz:=ZeP.binds (ps:=["tree"]) λ_ _ _ _ _ _ us hl=>by obtain⟨x0,u0,rfl,h0⟩:=le1 hl;obtain rfl:=le0 h0;exact rfl
 have ZeQ:=Zt (st:=s_flat_number) Zcw Zcx Zbk
 have ZiA:=ZeQ.binds (ps:=["tree","place"]) λ_ _ _ _ _ _ us hl=>by obtain⟨x0,u0,rfl,h0⟩:=le1 hl;obtain⟨x1,u1,rfl,h1⟩:=le1 h0;obtain rfl:=le0 h1;exact rfl
 have Zik:=Zt (st:=s_flattest) Zfj Zfk Zde
 have Zl4:=Zik.binds (ps:=["tree"]) λ_ _ _ _ _ _ us hl=>by obtain⟨x0,u0,rfl,h0⟩:=le1 hl;obtain rfl:=le0 h0;exact rfl
 have ZgY:=Zt (st:=s__law_pool) Zea Zeb Zcb
 have Zk9:=ZgY.binds (ps:=["script","k"]) λ_ _ _ _ _ _ us hl=>by obtain⟨x0,u0,rfl,h0⟩:=le1 hl;obtain⟨x1,u1,rfl,h1⟩:=le1 h0;obtain rfl:=le0 h1;exact rfl
 have ZgZ:=Zt (st:=s__law_pick) Zed Zee Zcc
 have Zla:=ZgZ.binds (ps:=["pool","many"]) λ_ _ _ _ _ _ us hl=>by obtain⟨x0,u0,rfl,h0⟩:=le1 hl;obtain⟨x1,u1,rfl,h1⟩:=le1 h0;obtain rfl:=le0 h1;exact rfl
 have Zg0:=Zt (st:=s__law_size) Zeg Zeh Zcd
 have Zlb:=Zg0.binds (ps:=["pool","most"]) λ_ _ _ _ _ _ us hl=>by obtain⟨x0,u0,rfl,h0⟩:=le1 hl;obtain⟨x1,u1,rfl,h1⟩:=le1 h0;obtain rfl:=le0 h1;exact rfl
 have ZfU:=Zt (st:=s__law_drops) Zdg Zdh ZbI
 have Zj1:=ZfU.binds (ps:=["pool","many"]) λ_ _ _ _ _ _ us hl=>by obtain⟨x0,u0,rfl,h0⟩:=le1 hl;obtain⟨x1,u1,rfl,h1⟩:=le1 h0;obtain rfl:=le0 h1;exact rfl
 have Zg1:=Zt (st:=s__law_hung) Zej Zek Zce
 have Zlc:=Zg1.binds (ps:=["drops"]) λ_ _ _ _ _ _ us hl=>by obtain⟨x0,u0,rfl,h0⟩:=le1 hl;obtain rfl:=le0 h0;exact rfl
 have Zg2:=Zt (st:=s__law_tree) Zem Zen Zcf
 have Zld:=Zg2.binds (ps:=["pool","most"]) λ_ _ _ _ _ _ us hl=>by obtain⟨x0,u0,rfl,h0⟩:=le1 hl;obtain⟨x1,u1,rfl,h1⟩:=le1 h0;obtain rfl:=le0 h1;exact rfl
 have ZfV:=Zt (st:=s__law_times) Zdj Zdk ZbJ
 have Zj2:=ZfV.binds (ps:=["tree"]) λ_ _ _ _ _ _ us hl=>by obtain⟨x0,u0,rfl,h0⟩:=le1 hl;obtain rfl:=le0 h0;exact rfl
 have Zbt:=Zt (st:=s__law_orders_of_all) ZaJ ZaK Z7
 have Zep:=Zbt.binds (ps:=["n"]) λ_ _ _ _ _ _ us hl=>by obtain⟨x0,u0,rfl,h0⟩:=le1 hl;obtain rfl:=le0 h0;exact rfl
 have Zch:=Zt (st:=s__law_tree_right) Za9 Zba ZaA
 have ZfW:=Zch.binds (ps:=["tree","m"]) λ_ _ _ _ _ _ us hl=>by obtain⟨x0,u0,rfl,h0⟩:=le1 hl;obtain⟨x1,u1,rfl,h1⟩:=le1 h0;obtain rfl:=le0 h1;exact rfl
 have Zt4:=Zt (st:=s_law) Zph Zpj Zpk
 refine⟨fnOf "law" "law" (defArgs s_law) (defBody s_law) (defScope s_law) .none Zts Ztt Ztu Ztv Zpi Ztw,λs v=>.of_eq rfl,?tb,?nd,λbase _ _ B=>?_⟩
 case tb =>
  intro p hp
  unfold tabsL at hp
  simp only[Yo,List.not_mem_nil,or_false]at hp
  subst hp
  ·exact⟨by rw[Zav.1];exact Zcr,by rw[Zav.1];exact Zcq,Zbg,by rw[Zav.1];exact Zbi⟩
 case nd =>
  unfold tabsL
  simp only[YA,List.map_nil]
  rw[Zav.1]
  exact nd
 have ZcF:Callee l.prog w K mg base "settle" 1 ["elders","spine","place","keep"] (sp_settle K mg):=⟨_,_,mg_of X G ZhU,ZfH,Zpl,ok_settle ZkY T⟩
 have ZaM:Callee l.prog w K mg base "tree_of" 2 ["row"] (sp_tree_of K mg):=⟨_,_,mg_of X G Zgh,ZeC,ZnH,ok_tree_of Zja ZcF T⟩
 have ZaN:Callee l.prog w K mg base "need_count" 1 ["n"] (sp_need_count K mg):=⟨_,_,mg_of X G Zc1,ZbF,ZjY,ok_need_count ZfR T⟩
 have ZA:Callee l.prog w K mg base "running_sums" 1 ["numbers"] (sp_running_sums K mg):=⟨_,_,mg_of X G ZbT,Za7,Zif,ok_running_sums Zeo T⟩
 have ZeZ:Callee l.prog w K mg base "one_more" 2 ["ends"] (sp_one_more K mg):=⟨_,_,mg_of X G Ze6,Zc4,Zl0,ok_one_more Zig ZA T⟩
 have ZhT:Callee l.prog w K mg base "climbs" 3 ["n","most"] (sp_climbs K mg):=⟨_,_,mg_of X G Zh2,ZfK,Zpn,ok_climbs Zk2 ZeZ T⟩
 have ZdF:Callee l.prog w K mg base "many_flat" 4 ["n","most"] (sp_many_flat K mg):=⟨_,_,mg_of X G ZdU,Zb6,Zk3,ok_many_flat ZgT ZaN ZhT T⟩
 have ZcX:Callee l.prog w K mg base "many_trees" 5 ["n"] (sp_many_trees K mg):=⟨_,_,mg_of X G Zc5,ZbG,ZjZ,ok_many_trees ZfS ZdF T⟩
 have ZcV:Callee l.prog w K mg base "need_short" 1 ["told"] (sp_need_short K mg):=⟨_,_,mg_of X G Zc9,ZbH,Zj0,ok_need_short ZfT T⟩
 have Ze0:Callee l.prog w K mg base "by_drops" 2 ["told"] (sp_by_drops K mg):=⟨_,_,mg_of X G Zfc,Zdc,Zl2,ok_by_drops Zii ZcF ZcV T⟩
 have Zgf:Callee l.prog w K mg base "pick" 1 ["ways","number"] (sp_pick K mg):=⟨_,_,mg_of X G ZlN,ZjM,Ztx,ok_pick Zpo T⟩
 have ZdI:Callee l.prog w K mg base "goings_on" 2 ["n"] (sp_goings_on K mg):=⟨_,_,mg_of X G ZdX,Zb7,Zk4,ok_goings_on ZgU ZA T⟩
 have ZdJ:Callee l.prog w K mg base "drop_ways" 1 ["goings","still"] (sp_drop_ways K mg):=⟨_,_,mg_of X G Zd0,Zb8,Zk5,ok_drop_ways ZgV T⟩
 have Zgg:Callee l.prog w K mg base "tree_at" 3 ["n","number"] (sp_tree_at K mg):=⟨_,_,mg_of X G Zgn,ZeE,ZnJ,ok_tree_at Zjc ZaN Ze0 Zgf ZdI ZdJ T⟩
 have Zar:Callee l.prog w K mg base "way_up" 1 ["tree","place"] (sp_way_up K mg):=⟨_,_,mg_of X G ZhX,ZfI,Zpm,ok_way_up ZkZ T⟩
 have Zge:Callee l.prog w K mg base "is_tree" 3 ["tree"] (sp_is_tree K mg):=⟨_,_,mg_of X G Zgk,ZeD,ZnI,ok_is_tree Zjb ZaM Zar T⟩
 have ZT:Callee l.prog w K mg base "need_tree" 4 ["tree"] (sp_need_tree K mg):=⟨_,_,mg_of X G ZdN,Zb4,Zk0,ok_need_tree ZgR Zge T⟩
 have Zal:Callee l.prog w K mg base "need_few" 1 ["many","m"] (sp_need_few K mg):=⟨_,_,mg_of X G Zff,Zdd,Zl3,ok_need_few Zij T⟩
 have Ze1:Callee l.prog w K mg base "young_of" 1 ["tree"] (sp_young_of K mg):=⟨_,_,mg_of X G Ze3,ZcY,ZlZ,ok_young_of Zie T⟩
 have ZcW:Callee l.prog w K mg base "from_below" 5 ["tree"] (sp_from_below K mg):=⟨_,_,mg_of X G ZbC,ZbE,ZjX,ok_from_below ZfQ Zar ZjW B T⟩
 have ZdK:Callee l.prog w K mg base "span_ways" 6 ["tree","young","m"] (sp_span_ways K mg):=⟨_,_,mg_of X G Zd3,Zb9,Zk6,ok_span_ways ZgW ZcW ZA T⟩
 have GI_Filling:ZfF l.prog w K mg base "Filling" 7 ["self","tree","m"] (sp_Filling___init__ K mg):=⟨_,_,by rw[q_Filling];exact⟨mk_Filling,a_Filling___init__,i_Filling___init__,kc_Filling⟩,by rw[q_Filling];exact mg_of X G n_Filling,B_Filling___init__,ok_Filling___init__ F_Filling___init__ Ze1 ZdK T⟩
 have GM_Filling_how_many_rows:Zad l.prog w K mg base "Filling" "how_many_rows" 1 ["self"] (sp_Filling_how_many_rows K mg):=⟨_,_,T.cl_Filling,by rw[q_Filling];exact⟨a_Filling_how_many_rows,i_Filling_how_many_rows,k_Filling_how_many_rows⟩,B_Filling_how_many_rows,ok_Filling_how_many_rows F_Filling_how_many_rows T⟩
 have ZaH:Callee l.prog w K mg base "many_rows" 9 ["tree","m"] (sp_many_rows K mg):=⟨_,_,mg_of X G Zd6,Zca,Zk7,ok_many_rows ZgX ZT Zal GI_Filling GM_Filling_how_many_rows T⟩
 have R_fam:∀n,Zad l.prog w K mg base "Filling" "outside_ways" (2+n) ["self","place"] (sp_Filling_outside_ways_R n K mg)/\Zad l.prog w K mg base "Filling" "outside_by_elder" (2+n) ["self","place","elder"] (sp_Filling_outside_by_elder_R n K mg)/\Zad l.prog w K mg base "Filling" "onward_ways" (2+n) ["self","place"] (sp_Filling_onward_ways_R n K mg):=λn=>by
  induction n with
  |zero=>exact⟨⟨_,_,T.cl_Filling,by rw[q_Filling];exact⟨a_Filling_outside_ways,i_Filling_outside_ways,k_Filling_outside_ways⟩,B_Filling_outside_ways,F_Filling_outside_ways.okX (k:=1) sc_Filling_outside_ways (λvs H Q E h=>False.elim h) (λcdv A outer s H vs Q E hr h=>False.elim h)⟩,⟨_,_,T.cl_Filling,by rw[q_Filling];exact⟨a_Filling_outside_by_elder,i_Filling_outside_by_elder,k_Filling_outside_by_elder⟩,B_Filling_outside_by_elder,F_Filling_outside_by_elder.okX (k:=1) sc_Filling_outside_by_elder (λvs H Q E h=>False.elim h) (λcdv A outer s H vs Q E hr h=>False.elim h)⟩,⟨_,_,T.cl_Filling,by rw[q_Filling];exact⟨a_Filling_onward_ways,i_Filling_onward_ways,k_Filling_onward_ways⟩,B_Filling_onward_ways,F_Filling_onward_ways.okX (k:=1) sc_Filling_onward_ways (λvs H Q E h=>False.elim h) (λcdv A outer s H vs Q E hr h=>False.elim h)⟩⟩
  |succ n ih =>
   obtain⟨ih_Filling_outside_ways,ih_Filling_outside_by_elder,ih_Filling_onward_ways⟩:=ih
   exact⟨⟨_,_,T.cl_Filling,by rw[q_Filling];exact⟨a_Filling_outside_ways,i_Filling_outside_ways,k_Filling_outside_ways⟩,B_Filling_outside_ways,ok_Filling_outside_ways F_Filling_outside_ways ih_Filling_outside_by_elder T⟩,⟨_,_,T.cl_Filling,by rw[q_Filling];exact⟨a_Filling_outside_by_elder,i_Filling_outside_by_elder,k_Filling_outside_by_elder⟩,B_Filling_outside_by_elder,ok_Filling_outside_by_elder F_Filling_outside_by_elder ZA ih_Filling_outside_ways ih_Filling_onward_ways T⟩,⟨_,_,T.cl_Filling,by rw[q_Filling];exact⟨a_Filling_onward_ways,i_Filling_onward_ways,k_Filling_onward_ways⟩,B_Filling_onward_ways,ok_Filling_onward_ways F_Filling_onward_ways ih_Filling_outside_ways T⟩⟩
 obtain⟨GM_Filling_outside_ways,GM_Filling_outside_by_elder,GM_Filling_onward_ways⟩:=R_fam 40
 have GM_Filling_next_ways:Zad l.prog w K mg base "Filling" "next_ways" 43 ["self"] (sp_Filling_next_ways K mg):=⟨_,_,T.cl_Filling,by rw[q_Filling];exact⟨a_Filling_next_ways,i_Filling_next_ways,k_Filling_next_ways⟩,B_Filling_next_ways,ok_Filling_next_ways F_Filling_next_ways GM_Filling_onward_ways T⟩
 have ZcG:Callee l.prog w K mg base "row_at" 44 ["tree","m","number"] (sp_row_at K mg):=⟨_,_,mg_of X G Zh8,ZfN,Zpp,ok_row_at Zk8 ZT Zgf Zal GI_Filling GM_Filling_how_many_rows GM_Filling_next_ways T⟩
 have Zbu:Callee l.prog w K mg base "number_of_row" 44 ["row","m"] (sp_number_of_row K mg):=⟨_,_,mg_of X G Zbv,ZaW,Zg7,ok_number_of_row Zdm ZaM Zal GI_Filling GM_Filling_next_ways T⟩
 have ZdE:Callee l.prog w K mg base "fences_of" 2 ["tree"] (sp_fences_of K mg):=⟨_,_,mg_of X G ZdQ,Zb5,Zk1,ok_fences_of ZgS Zar T⟩
 have Zbe:Callee l.prog w K mg base "spans_of" 5 ["tree"] (sp_spans_of K mg):=⟨_,_,mg_of X G Ze9,Zc8,Zl1,ok_spans_of Zih ZT ZdE T⟩
 have ZaT:Callee l.prog w K mg base "many_orders" 6 ["tree"] (sp_many_orders K mg):=⟨_,_,mg_of X G Zcs,Zbj,Ziz,ok_many_orders ZeP Zbe T⟩
 have ZdL:Callee l.prog w K mg base "_law_pool" 1 ["script","k"] (sp__law_pool K mg):=⟨_,_,mg_of X G Zd9,Zcb,Zk9,ok__law_pool ZgY T⟩
 have Zw:Callee l.prog w K mg base "_law_pick" 1 ["pool","many"] (sp__law_pick K mg):=⟨_,_,mg_of X G Zec,Zcc,Zla,ok__law_pick ZgZ T⟩
 have ZdG:Callee l.prog w K mg base "_law_size" 2 ["pool","most"] (sp__law_size K mg):=⟨_,_,mg_of X G Zef,Zcd,Zlb,ok__law_size Zg0 Zw T⟩
 have ZcU:Callee l.prog w K mg base "_law_drops" 2 ["pool","many"] (sp__law_drops K mg):=⟨_,_,mg_of X G Zdf,ZbI,Zj1,ok__law_drops ZfU Zw T⟩
 have ZdH:Callee l.prog w K mg base "_law_hung" 1 ["drops"] (sp__law_hung K mg):=⟨_,_,mg_of X G Zei,Zce,Zlc,ok__law_hung Zg1 T⟩
 have ZdM:Callee l.prog w K mg base "_law_tree" 3 ["pool","most"] (sp__law_tree K mg):=⟨_,_,mg_of X G Zel,Zcf,Zld,ok__law_tree Zg2 ZdG ZcU ZdH T⟩
 have ZbB:Callee l.prog w K mg base "_law_times" 6 ["tree"] (sp__law_times K mg):=⟨_,_,mg_of X G Zdi,ZbJ,Zj2,ok__law_times ZfV Zbe T⟩
 have Z6:Callee l.prog w K mg base "_law_orders_of_all" 1 ["n"] (sp__law_orders_of_all K mg):=⟨_,_,mg_of X G ZaI,Z7,Zep,ok__law_orders_of_all Zbt T⟩
 have Zcm:Callee l.prog w K mg base "flat_number" 2 ["tree","place"] (sp_flat_number K mg):=⟨_,_,mg_of X G Zcv,Zbk,ZiA,ok_flat_number ZeQ Zar T⟩
 have Ze2:Callee l.prog w K mg base "flattest" 5 ["tree"] (sp_flattest K mg):=⟨_,_,mg_of X G Zfi,Zde,Zl4,ok_flattest Zik ZT Zcm T⟩
 have Za6:Callee l.prog w K mg base "_law_tree_right" 45 ["tree","m"] (sp__law_tree_right K mg):=⟨_,_,mg_of X G Za8,ZaA,ZfW,ok__law_tree_right Zch ZaH ZcG Ze2 T⟩
 exact ok_law Zt4 ZaM ZcX Zgg ZaH ZcG Zbu ZaT ZdL Zw ZdM ZbB Z6 Za6 T
theorem walk {l:PySem.W.OpenLaw}{q:Program}{loose:List Str}{XP:(Str->Option Value)->Heap->Prop}{YP:World->Heap->Prop}{d:DefRec}{K:Params->PySem.W.Frag}{ts:List Addr} (hn:l.most=some 63) (hdf:d.params.defaults=[])
  (hY:∀(w:World) (h:Heap),YP w h->(K w.params).In h) (hY2:∀(w:World) (h:Heap),YP w h->∀P∈ts,h.get? P=some (PySem.W.tabObj #[]))
  (F:∀(w:World) (mg:Str->Option Value) (fa:Addr) (h:Heap),(K w.params).In h->h.Ns mainGlobals mg->mg d.name=some (.ref fa) ->
   ∃fd:FuncData,(∀(s:Shared) (u:Value),BindsTo s fd ⟨[u],[]⟩ [("script",u)])/\(∀p∈tabsL (K w.params) mg,p.1∈ts/\(K w.params).lookup p.1=none/\∃c,PySem.W.codeHdIn (K w.params) c p.1=true)/\((tabsL (K w.params) mg).map (·.1)).Nodup/\∀base:Heap,(K w.params).In base->base.Ns mainGlobals mg->BM mg base->FnOk l.prog w (K w.params) mg base (CXE l.prog w) 46 fa fd ["script"] (spLaw (K w.params) mg)) :
  PySem.W.WalkO q loose XP YP l.row.toRowW d [] (λf vs=>PySem.call f vs) :=
 L2.ZoO (n:=63) (k:=46) (x:="script") (ts:=ts) (tabs:=tabsL) (CX:=λw=>CXE l.prog w) (sp:=λw mg=>spLaw (K w.params) mg) hn (by decide) hdf ⟨rfl,by decide,by decide⟩ hY hY2 F (λ_ _ _ a ns hl hS hT=>⟨a,ns,rfl,hS,hl,hT,λ_=>rfl⟩) λ_ _ _ _ _ ⟨_,_,_,_,_,_,_,z⟩=>z
end K88
def PySem.W.Fast.tw7085737592447383539:Unit:=()
def PySem.W.Fast.tw15221838671219309343:Unit:=()
def PySem.W.Fast.tw8402775923861658086:Unit:=()
def PySem.W.Fast.tw17218305714997122090:Unit:=()
def PySem.W.Fast.tw13060170091860636537:Unit:=()
def PySem.W.Fast.tw1594502980645254582:Unit:=()
def PySem.W.Fast.tw17984309097452077961:Unit:=()
def PySem.W.Fast.tw1580904954012981851:Unit:=()
def PySem.W.Fast.tw7833817186889953559:Unit:=()
def PySem.W.Fast.tw17335819715640606128:Unit:=()
def PySem.W.Fast.tw13117610095298793068:Unit:=()
def PySem.W.Fast.tw5714348731730750051:Unit:=()
def PySem.W.Fast.tw12094971839824676364:Unit:=()
def PySem.W.Fast.tw5675466812033811525:Unit:=()
def PySem.W.Fast.tw17437849234839867464:Unit:=()
def PySem.W.Fast.tw14891298683383628929:Unit:=()
def PySem.W.Fast.tw14539113187602836804:Unit:=()
def PySem.W.Fast.tw11808430166287277862:Unit:=()
def PySem.W.Fast.tw3293233666002758574:Unit:=()
def PySem.W.Fast.tw17404341534801965988:Unit:=()
def PySem.W.Fast.tw5987638782278756903:Unit:=()
def PySem.W.Fast.tw14270470072382372258:Unit:=()
def PySem.W.Fast.tw15576445930278016953:Unit:=()
def PySem.W.Fast.tw10766239783435599430:Unit:=()
def PySem.W.Fast.tw9912785938087766744:Unit:=()
def PySem.W.Fast.tw15982719085387170776:Unit:=()
def PySem.W.Fast.tw6727953785402043933:Unit:=()
def PySem.W.Fast.tw16131356516599935512:Unit:=()
def PySem.W.Fast.tw8266263727869831026:Unit:=()
def PySem.W.Fast.tw10604891740684892479:Unit:=()
def PySem.W.Fast.tw16608396525541809047:Unit:=()
def PySem.W.Fast.tw16737881029183471870:Unit:=()
def PySem.W.Fast.tw14642629348997641413:Unit:=()
def PySem.W.Fast.tw17828597935810063081:Unit:=()
def PySem.W.Fast.tw8030152021477218935:Unit:=()
def PySem.W.Fast.tw16904410965088972207:Unit:=()
def PySem.W.Fast.tw13741796656665077112:Unit:=()
def PySem.W.Fast.tw9452861883453173614:Unit:=()
def PySem.W.Fast.tw4179083826071166321:Unit:=()
def PySem.W.Fast.tw39766549688913828:Unit:=()
def PySem.W.Fast.tw349657674883131980:Unit:=()
def PySem.W.Fast.tw955249246762529538:Unit:=()
def PySem.W.Fast.tw6275608227170231792:Unit:=()
def PySem.W.Fast.tw2036252576934741797:Unit:=()
def PySem.W.Fast.tw18236365573516122933:Unit:=()
def PySem.W.Fast.tw12752872630069401892:Unit:=()
def PySem.W.Fast.tw6829598434138239928:Unit:=()
def PySem.W.Fast.tw980201290969526187:Unit:=()
def PySem.W.Fast.tw6030054859473608857:Unit:=()
def PySem.W.Fast.tw10845339573378734232:Unit:=()
def PySem.W.Fast.tw5782991269602896251:Unit:=()
def PySem.W.Fast.tw4270110936936413358:Unit:=()
def PySem.W.Fast.tw3464622312253800219:Unit:=()
def PySem.W.Fast.tw8154899556088072324:Unit:=()
def PySem.W.Fast.tw2458105107264130281:Unit:=()
def PySem.W.Fast.tw7257663030620630206:Unit:=()
def PySem.W.Fast.tw6205761629142977315:Unit:=()
def PySem.W.Fast.tw14989899293005130684:Unit:=()
def PySem.W.Fast.tw12345569576130632659:Unit:=()
def PySem.W.Fast.tw482733478595134499:Unit:=()
def PySem.W.Fast.tw11072466723017450074:Unit:=()
def PySem.W.Fast.tw4113025636540958845:Unit:=()
def PySem.W.Fast.tw16486795167576726869:Unit:=()
def PySem.W.Fast.tw9144846073432053549:Unit:=()
def PySem.W.Fast.tw2803059127703989926:Unit:=()
def PySem.W.Fast.tw10993416641368285379:Unit:=()
def PySem.W.Fast.tw4621875278015247848:Unit:=()
def PySem.W.Fast.tw7420270544644354650:Unit:=()
def PySem.W.Fast.tw5381292400714362974:Unit:=()
def PySem.W.Fast.tw4102739488061979132:Unit:=()
def PySem.W.Fast.tw16301319887416304987:Unit:=()
def PySem.W.Fast.tw16667067658116121160:Unit:=()
def PySem.W.Fast.tw8009025333734309583:Unit:=()
def PySem.W.Fast.tw13984537080057915762:Unit:=()
def PySem.W.Fast.tw17094602108633333072:Unit:=()
def PySem.W.Fast.tw2227691071919320848:Unit:=()
def PySem.W.Fast.tw5699205936654115245:Unit:=()
def PySem.W.Fast.tw18046405726932587670:Unit:=()
def PySem.W.Fast.tw16904407033159053322:Unit:=()
def PySem.W.Fast.tw7987432647636752345:Unit:=()
def PySem.W.Fast.tw11079254422870699231:Unit:=()
def PySem.W.Fast.tw723464000824737017:Unit:=()
def PySem.W.Fast.tw3227353698070669928:Unit:=()
def PySem.W.Fast.tw12924222463180121996:Unit:=()
def PySem.W.Fast.tw9919460983183724391:Unit:=()
def PySem.W.Fast.tw2242922153761978890:Unit:=()
def PySem.W.Fast.tw361920469310926979:Unit:=()
def PySem.W.Fast.tw11022609851900852358:Unit:=()
def PySem.W.Fast.tw9945501485066920276:Unit:=()
def PySem.W.Fast.tw6733813123550593796:Unit:=()
def PySem.W.Fast.tw7490325150814788134:Unit:=()
def PySem.W.Fast.tw16159182594242811613:Unit:=()
def PySem.W.Fast.tw3638929962611374689:Unit:=()
def PySem.W.Fast.tw6826413634456520011:Unit:=()
def PySem.W.Fast.tw16052352151160012034:Unit:=()
def PySem.W.Fast.tw1256447523269542414:Unit:=()
def PySem.W.Fast.tw6933303132732583646:Unit:=()
def PySem.W.Fast.tw7512252294440424956:Unit:=()
def PySem.W.Fast.tw18298458060297508547:Unit:=()
def PySem.W.Fast.tw2313418762315723038:Unit:=()
def PySem.W.Fast.tw3872438672690404272:Unit:=()
def PySem.W.Fast.tw11839357280862826222:Unit:=()
def PySem.W.Fast.tw10042425121606419446:Unit:=()
def PySem.W.Fast.tw11672277907317706488:Unit:=()
def PySem.W.Fast.tw7692388326344366491:Unit:=()
def PySem.W.Fast.tw10750209952329564700:Unit:=()
def PySem.W.Fast.tw5132897508568394555:Unit:=()
def PySem.W.Fast.tw1687399846850121751:Unit:=()
def PySem.W.Fast.tw10242350024686581362:Unit:=()
def PySem.W.Fast.tw10117151456674832780:Unit:=()
def PySem.W.Fast.tw1771172454354449519:Unit:=()
def PySem.W.Fast.tw1982924495081334203:Unit:=()
def PySem.W.Fast.tw3123180745523497425:Unit:=()
def PySem.W.Fast.tw13915162767957840452:Unit:=()
def PySem.W.Fast.tw9011046882677796656:Unit:=()
def PySem.W.Fast.tw9224950446712625813:Unit:=()
def PySem.W.Fast.tw6696225078990179407:Unit:=()
def PySem.W.Fast.tw7612746507580825189:Unit:=()
def PySem.W.Fast.tw13524166004962693044:Unit:=()
def PySem.W.Fast.tw10197202164339509216:Unit:=()
open PySem PySem.W PyProof.Rows
set_option maxRecDepth 100000 in
set_option maxHeartbeats 0 in
theorem PySem.Challenge.cw_dipkin_k88_whole_orders_and_rows_add_up_holds : PySem.Challenge.rw_dipkin_k88_whole_orders_and_rows_add_up.Holds := by
 w_on;o_law;k_head;(case hw=>w_witness2)
 k_fill
 refine K88.walk (l:=PySem.Challenge.rw_dipkin_k88_whole_orders_and_rows_add_up) rfl rfl (λw h Y=>PySem.W.km_in_of Y) (λw h Y=>PySem.W.km_tabs_of Y) ?F
 case F =>
  intro w mg fa h KX G hmg
  refine' K88.all_mk KX G hmg ?n_Filling ?pg_Filling ?hd_Filling ?po_Filling ?sa_Filling ?mk_Filling ?kc_Filling ?na_Filling_tree ?na_Filling_most ?na_Filling_young ?na_Filling_spans ?na_Filling_outsides ?na_Filling_row ?ZhU ?ZhV ?ZhW ?ZfH ?Zgh ?Zgi ?Zgj ?ZeC ?ZhX ?ZhY ?ZhZ ?ZfI ?Zgk ?Zgl ?Zgm ?ZeD ?ZdN ?ZdO ?ZdP ?Zb4 ?ZdQ ?ZdR ?ZdS ?Zb5 ?Ze3 ?Ze4 ?Ze5 ?ZcY ?ZbC ?ZbD ?Zc0 ?ZbE ?Zcn ?Zco ?Zcp ?Zbi ?Zcq ?Zcr ?Zc1 ?Zc2 ?Zc3 ?ZbF ?ZbT ?ZbU ?ZbV ?Za7 ?Ze6 ?Ze7 ?Ze8 ?Zc4 ?Zh2 ?Zh3 ?Zh4 ?ZfK ?Zc5 ?Zc6 ?Zc7 ?ZbG ?ZdU ?ZdV ?ZdW ?Zb6 ?Ze9 ?Zfa ?Zfb ?Zc8 ?Zc9 ?Zda ?Zdb ?ZbH ?Zfc ?Zfd ?Zfe ?Zdc ?ZlN ?ZlO ?ZlP ?ZjM ?ZdX ?ZdY ?ZdZ ?Zb7 ?Zd0 ?Zd1 ?Zd2 ?Zb8 ?Zgn ?Zgo ?Zgp ?ZeE ?Zff ?Zfg ?Zfh ?Zdd ?Zd3 ?Zd4 ?Zd5 ?Zb9 ?a_Filling___init__ ?i_Filling___init__ ?l_Filling___init__ ?c_Filling___init__ ?k_Filling___init__ ?a_Filling_how_many_rows ?i_Filling_how_many_rows ?l_Filling_how_many_rows ?c_Filling_how_many_rows ?k_Filling_how_many_rows ?a_Filling_outside_ways ?i_Filling_outside_ways ?l_Filling_outside_ways ?c_Filling_outside_ways ?k_Filling_outside_ways ?a_Filling_outside_by_elder ?i_Filling_outside_by_elder ?l_Filling_outside_by_elder ?c_Filling_outside_by_elder ?k_Filling_outside_by_elder ?a_Filling_onward_ways ?i_Filling_onward_ways ?l_Filling_onward_ways ?c_Filling_onward_ways ?k_Filling_onward_ways ?a_Filling_next_ways ?i_Filling_next_ways ?l_Filling_next_ways ?c_Filling_next_ways ?k_Filling_next_ways ?Zd6 ?Zd7 ?Zd8 ?Zca ?Zh8 ?Zh9 ?Zia ?ZfN ?Zbv ?Zbw ?Zbx ?ZaW ?Zcs ?Zct ?Zcu ?Zbj ?Zcv ?Zcw ?Zcx ?Zbk ?Zfi ?Zfj ?Zfk ?Zde ?Zd9 ?Zea ?Zeb ?Zcb ?Zec ?Zed ?Zee ?Zcc ?Zef ?Zeg ?Zeh ?Zcd ?Zdf ?Zdg ?Zdh ?ZbI ?Zei ?Zej ?Zek ?Zce ?Zel ?Zem ?Zen ?Zcf ?Zdi ?Zdj ?Zdk ?ZbJ ?ZaI ?ZaJ ?ZaK ?Z7 ?Za8 ?Za9 ?Zba ?ZaA ?Zpg ?Zph ?Zpj ?Zpk ?n_DipError ?x_DipError ?d_DipError ?y_DipError ?n_TooMany ?x_TooMany ?d_TooMany ?y_TooMany ?n_NoTree ?x_NoTree ?d_NoTree ?y_NoTree ?n_NoTelling ?x_NoTelling ?d_NoTelling ?y_NoTelling ?n_NoNumber ?x_NoNumber ?d_NoNumber ?y_NoNumber ?b_all ?b_enumerate ?b_int ?b_isinstance ?b_len ?b_max ?b_min ?b_range ?b_reversed ?b_sorted ?b_sum ?b_tuple ?m_MOST_PLACES ?m_MOST_FILLED ?nd
  (case n_Filling|pg_Filling|hd_Filling|po_Filling|sa_Filling|mk_Filling|kc_Filling|na_Filling_tree|na_Filling_most|na_Filling_young|na_Filling_spans|na_Filling_outsides|na_Filling_row|ZhU|ZhV|ZhW|ZfH|Zgh|Zgi|Zgj|ZeC|ZhX|ZhY|ZhZ|ZfI|Zgk|Zgl|Zgm|ZeD|ZdN|ZdO|ZdP|Zb4|ZdQ|ZdR|ZdS|Zb5|Ze3|Ze4|Ze5|ZcY|ZbC|ZbD|Zc0|ZbE=>k_is)
  (case Zcn=>exact rfl)
  (case Zco=>k_is)
  (case Zcp=>exact rfl)
  (case Zbi=>kernel_rfl)
  (case Zcq=>kernel_rfl)
  (case Zcr=>decide)
  (case Zc1|Zc2|Zc3|ZbF|ZbT|ZbU|ZbV|Za7|Ze6|Ze7|Ze8|Zc4|Zh2|Zh3|Zh4|ZfK|Zc5|Zc6|Zc7|ZbG|ZdU|ZdV|ZdW|Zb6|Ze9|Zfa|Zfb|Zc8|Zc9|Zda|Zdb|ZbH|Zfc|Zfd|Zfe|Zdc|ZlN|ZlO|ZlP|ZjM|ZdX|ZdY|ZdZ|Zb7|Zd0|Zd1|Zd2|Zb8|Zgn|Zgo|Zgp|ZeE|Zff|Zfg|Zfh|Zdd|Zd3|Zd4|Zd5|Zb9|a_Filling___init__|i_Filling___init__|l_Filling___init__|c_Filling___init__|k_Filling___init__|a_Filling_how_many_rows|i_Filling_how_many_rows|l_Filling_how_many_rows|c_Filling_how_many_rows|k_Filling_how_many_rows|a_Filling_outside_ways|i_Filling_outside_ways|l_Filling_outside_ways|c_Filling_outside_ways|k_Filling_outside_ways|a_Filling_outside_by_elder|i_Filling_outside_by_elder|l_Filling_outside_by_elder|c_Filling_outside_by_elder|k_Filling_outside_by_elder|a_Filling_onward_ways|i_Filling_onward_ways|l_Filling_onward_ways|c_Filling_onward_ways|k_Filling_onward_ways|a_Filling_next_ways|i_Filling_next_ways|l_Filling_next_ways|c_Filling_next_ways|k_Filling_next_ways|Zd6|Zd7|Zd8|Zca|Zh8|Zh9|Zia|ZfN|Zbv|Zbw|Zbx|ZaW|Zcs|Zct|Zcu|Zbj|Zcv|Zcw|Zcx|Zbk|Zfi|Zfj|Zfk|Zde|Zd9|Zea|Zeb|Zcb|Zec|Zed|Zee|Zcc|Zef|Zeg|Zeh|Zcd|Zdf|Zdg|Zdh|ZbI|Zei|Zej|Zek|Zce|Zel|Zem|Zen|Zcf|Zdi|Zdj|Zdk|ZbJ|ZaI|ZaJ|ZaK|Z7|Za8|Za9|Zba|ZaA|Zpg|Zph|Zpj|Zpk|n_DipError=>k_is)
  (case x_DipError=>k_exc)
  (case d_DipError|y_DipError|n_TooMany=>k_is)
  (case x_TooMany=>k_exc)
  (case d_TooMany|y_TooMany|n_NoTree=>k_is)
  (case x_NoTree=>k_exc)
  (case d_NoTree|y_NoTree|n_NoTelling=>k_is)
  (case x_NoTelling=>k_exc)
  (case d_NoTelling|y_NoTelling|n_NoNumber=>k_is)
  (case x_NoNumber=>k_exc)
  (case d_NoNumber|y_NoNumber|b_all|b_enumerate|b_int|b_isinstance|b_len|b_max|b_min|b_range|b_reversed|b_sorted|b_sum|b_tuple|m_MOST_PLACES|m_MOST_FILLED=>k_is)
  (case nd=>decide)
